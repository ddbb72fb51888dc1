import PyProof.Rows.All
import Wide.All
import OpenK.AllK
import Wide.FinOn
import KE.KStateDown
import HandS.ForMost
import HandS.More
import HandS.WordsExc
import HandS.Defaults
import HandS.IsInst
import HandS.Deep
import HandS.DeepEq
import HandS.TupAny
import HandS.Conv
import HandS.Style
import HandS.Wide
import HandS.Evl
import KE.GoesEnum
import HandS.SortInts
import HandS.Dict
import HandS.SetFor
import HandS.TupMul
import KE.KMathGC
import HandS.TupSets
import HandS.DictComp
import HandS.Gcd
import HandS.TryOnly
import HandS.Base
import HandS.Call
import HandS.Exc
import HandS.HeadHook1
import HandS.HeadHook2
import HandS.Ends
import HandS.Words
import HandS.Head0
import HandS.Head1
import HandS.Head2
import HandS.HeadEnd
import HandS.Head3
import PySem.Challenge.RW_truenames_k69_papers_on_shadows
set_option Elab.async false
set_option linter.all false
set_option maxRecDepth 100000
set_option autoImplicit false
set_option maxHeartbeats 4000000
/-! Own layer: what a body does, told over deep values and slots, without the heap. -/
namespace Dn
open PySem L2

abbrev D := PyData
def keyB : Key → D
  | .inl i => .int i
  | .inr x => .str x
def dkD (kvs : List (Key × D)) : List (D × D) := kvs.map fun p => (keyB p.1, p.2)
mutual
inductive Rp (K : PySem.W.Frag) (G : Hp) : V → D → Prop
  | non : Rp K G .non .none
  | bl (b : Bool) : Rp K G (.bl b) (.bool b)
  | int (i : Int) : Rp K G (.int i) (.int i)
  | str (x : Str) : Rp K G (.str x) (.str x)
  | lst {a : Addr} {xs : List V} {ds : List D} : G a = some (.lst xs) → RpAll K G xs ds → Rp K G (.ref a) (.list ds)
  | tup {a : Addr} {xs : List V} {ds : List D} : G a = some (.tup xs) → RpAll K G xs ds → Rp K G (.ref a) (.tuple ds)
  | dct {a : Addr} {kws : List (Key × V)} {kvs : List (Key × D)} {dd : List (D × D)} : G a = some (.dK kws) → RpKv K G kws kvs → dd = dkD kvs → Rp K G (.ref a) (.dict dd)
  | frz {a : Addr} {xs : List V} {ds : List D} : SqL K G a xs → RpAll K G xs ds → Rp K G (.ref a) (.dict [(.none, .tuple ds)])
inductive RpAll (K : PySem.W.Frag) (G : Hp) : List V → List D → Prop
  | nil : RpAll K G [] []
  | cons {v : V} {vs : List V} {d : D} {ds : List D} : Rp K G v d → RpAll K G vs ds → RpAll K G (v :: vs) (d :: ds)
inductive RpKv (K : PySem.W.Frag) (G : Hp) : List (Key × V) → List (Key × D) → Prop
  | nil : RpKv K G [] []
  | cons {k : Key} {v : V} {d : D} {kws : List (Key × V)} {kvs : List (Key × D)} : Rp K G v d → RpKv K G kws kvs → RpKv K G ((k, v) :: kws) ((k, d) :: kvs)
end

open Evl
mutual
theorem Rp.mono {K : PySem.W.Frag} {G G' : Hp} (e : Ex G G') : ∀ {v : V} {d : D}, Rp K G v d → Rp K G' v d
  | _, _, .non => .non
  | _, _, .bl b => .bl b
  | _, _, .int b => .int b
  | _, _, .str b => .str b
  | _, _, .lst h r => .lst (e _ _ h) (RpAll.mono e r)
  | _, _, .tup h r => .tup (e _ _ h) (RpAll.mono e r)
  | _, _, .dct h r z => .dct (e _ _ h) (RpKv.mono e r) z
  | _, _, .frz h r => .frz (ex_l e h) (RpAll.mono e r)
theorem RpAll.mono {K : PySem.W.Frag} {G G' : Hp} (e : Ex G G') : ∀ {v : List V} {d : List D}, RpAll K G v d → RpAll K G' v d
  | _, _, .nil => .nil
  | _, _, .cons h r => .cons (Rp.mono e h) (RpAll.mono e r)
theorem RpKv.mono {K : PySem.W.Frag} {G G' : Hp} (e : Ex G G') : ∀ {v : List (Key × V)} {d : List (Key × D)}, RpKv K G v d → RpKv K G' v d
  | _, _, .nil => .nil
  | _, _, .cons h r => .cons (Rp.mono e h) (RpKv.mono e r)
end
section
variable {K : PySem.W.Frag} {G : Hp}
theorem RpAll.length : ∀ {vs : List V} {ds : List D}, RpAll K G vs ds → vs.length = ds.length
  | _, _, .nil => rfl
  | _, _, .cons _ r => by simp [RpAll.length r]
theorem RpAll.get : ∀ {vs : List V} {ds : List D} {i : Nat} {d : D}, RpAll K G vs ds → ds[i]? = some d → ∃ v, vs[i]? = some v ∧ Rp K G v d
  | _, _, _, _, .nil, e => by simp at e
  | _, _, 0, _, .cons h _, e => by simp at e; subst e; exact ⟨_, rfl, h⟩
  | _, _, i + 1, _, .cons _ r, e => by simpa using RpAll.get r (by simpa using e)
theorem RpAll.get' : ∀ {vs : List V} {ds : List D} {i : Nat} {v : V}, RpAll K G vs ds → vs[i]? = some v → ∃ d, ds[i]? = some d ∧ Rp K G v d
  | _, _, _, _, .nil, e => by simp at e
  | _, _, 0, _, .cons h _, e => by simp at e; subst e; exact ⟨_, rfl, h⟩
  | _, _, i + 1, _, .cons _ r, e => by simpa using RpAll.get' r (by simpa using e)
theorem RpAll.append : ∀ {vs ws : List V} {ds es : List D}, RpAll K G vs ds → RpAll K G ws es → RpAll K G (vs ++ ws) (ds ++ es)
  | _, _, _, _, .nil, s => s
  | _, _, _, _, .cons h r, s => .cons h (RpAll.append r s)
theorem RpAll.set : ∀ {vs : List V} {ds : List D} {v : V} {d : D} (i : Nat), RpAll K G vs ds → Rp K G v d → RpAll K G (vs.set i v) (ds.set i d)
  | _, _, _, _, _, .nil, _ => .nil
  | _, _, _, _, 0, .cons _ r, s => .cons s r
  | _, _, _, _, i + 1, .cons h r, s => .cons h (RpAll.set i r s)
theorem RpAll.take : ∀ {vs : List V} {ds : List D} (i : Nat), RpAll K G vs ds → RpAll K G (vs.take i) (ds.take i)
  | _, _, 0, _ => by simp; exact .nil
  | _, _, _ + 1, .nil => .nil
  | _, _, i + 1, .cons h r => .cons h (RpAll.take i r)
theorem RpAll.drop : ∀ {vs : List V} {ds : List D} (i : Nat), RpAll K G vs ds → RpAll K G (vs.drop i) (ds.drop i)
  | _, _, 0, r => r
  | _, _, _ + 1, .nil => .nil
  | _, _, i + 1, .cons _ r => RpAll.drop i r
theorem RpAll.erase : ∀ {vs : List V} {ds : List D} (i : Nat), RpAll K G vs ds → RpAll K G (vs.eraseIdx i) (ds.eraseIdx i)
  | _, _, _, .nil => .nil
  | _, _, 0, .cons _ r => r
  | _, _, i + 1, .cons h r => .cons h (RpAll.erase i r)
theorem RpAll.dropLast {vs : List V} {ds : List D} (r : RpAll K G vs ds) : RpAll K G vs.dropLast ds.dropLast := by
  rw [List.dropLast_eq_take, List.dropLast_eq_take, r.length]; exact r.take _
theorem RpAll.reverse : ∀ {vs : List V} {ds : List D}, RpAll K G vs ds → RpAll K G vs.reverse ds.reverse
  | _, _, .nil => .nil
  | _, _, .cons h r => by simpa using r.reverse.append (.cons h .nil)
theorem RpAll.ints : ∀ (ns : List Int), RpAll K G (ns.map V.int) (ns.map PyData.int)
  | [] => .nil
  | n :: ns => .cons (.int n) (RpAll.ints ns)
theorem RpAll.of_ints : ∀ {ns : List Int} {vs : List V}, RpAll K G vs (ns.map PyData.int) → vs = ns.map V.int
  | [], _, .nil => rfl
  | n :: ns, _, .cons (.int _) r => by rw [RpAll.of_ints r]; rfl
theorem RpAll.of_bls : ∀ {ns : List Bool} {vs : List V}, RpAll K G vs (ns.map PyData.bool) → vs = ns.map V.bl
  | [], _, .nil => rfl
  | n :: ns, _, .cons (.bl _) r => by rw [RpAll.of_bls r]; rfl
end

/-! ### slots -/
inductive MO where
  | lst (ds : List D)
  | dct (kvs : List (Key × D))
  | par (p : Addr) (m : MO)
  /-- a kept range 0, 1, .. -/
  | rng (j : Int)
def RpO (K : PySem.W.Frag) (G : Hp) : MO → HO → Prop
  | .lst ds, .lst vs => RpAll K G vs ds
  | .dct kvs, .dK kws => Paired (fun (p : Key × D) (q : Key × V) => p.1 = q.1 ∧ Rp K G q.2 p.2) kvs kws
  | .par _ m, o => RpO K G m o
  | .rng j, .rng lo hi => lo = 0 ∧ hi = j
  | _, _ => False
theorem RpO.mono {K : PySem.W.Frag} {G G' : Hp} (e : Ex G G') : ∀ {m : MO} {o : HO}, RpO K G m o → RpO K G' m o
  | .par _ m, o, h => by unfold RpO at h ⊢; exact RpO.mono (m := m) e h
  | .lst ds, o, h => by cases o <;> first | exact RpAll.mono e h | exact False.elim h
  | .dct ds, o, h => by cases o <;> first | exact False.elim h | exact Paired.mapP h fun p q z => ⟨z.1, z.2.mono e⟩
  | .rng j, o, h => by cases o <;> first | exact False.elim h | exact h
inductive SV where
  | im (d : D)
  | ow (m : MO)
abbrev Env := List (Option SV)
def Own (ρ : Env) (σ : L2.St) (a : Addr) : Prop := ∃ (i : Nat) (m : MO), ρ[i]? = some (some (SV.ow m)) ∧ σ[i]? = some (some (V.ref a))
open Classical in
noncomputable def hide (O : Addr → Prop) (H : Hp) : Hp := fun a => if O a then none else H a
theorem hide_some {O : Addr → Prop} {H : Hp} {a : Addr} {o : HO} : hide O H a = some o ↔ ¬ O a ∧ H a = some o := by
  unfold hide; by_cases h : O a <;> simp [h]
theorem hide_ex {O : Addr → Prop} {H : Hp} : Ex (hide O H) H := fun _ _ h => (hide_some.1 h).2
def Hd (T : Addr → Prop) (ρ : Env) (σ : L2.St) (a : Addr) : Prop := T a ∨ Own ρ σ a
structure RS (K : PySem.W.Frag) (T : Addr → Prop) (ρ : Env) (σ : L2.St) (H : Hp) : Prop where
  len : ρ.length = σ.length
  im : ∀ (i : Nat) (d : D), ρ[i]? = some (some (SV.im d)) → ∃ v, σ[i]? = some (some v) ∧ Rp K (hide (Hd T ρ σ) H) v d
  ow : ∀ (i : Nat) (m : MO), ρ[i]? = some (some (SV.ow m)) → ∃ a o, σ[i]? = some (some (V.ref a)) ∧ H a = some o ∧ RpO K (hide (Hd T ρ σ) H) m o
  inj : ∀ (i j : Nat) (m m' : MO) (a : Addr), ρ[i]? = some (some (SV.ow m)) → ρ[j]? = some (some (SV.ow m')) → σ[i]? = some (some (V.ref a)) → σ[j]? = some (some (V.ref a)) → i = j
  dis : ∀ a, T a → ¬ Own ρ σ a
  dom : ∀ a, T a → H a ≠ none
  tag : ∀ (i : Nat) (p : Addr) (m : MO) (a : Addr), ρ[i]? = some (some (SV.ow (.par p m))) → σ[i]? = some (some (V.ref a)) → a = p
structure Po (ρ : Env) (σ : L2.St) (H : Hp) (ρ' : Env) (σ' : L2.St) (H' : Hp) : Prop where
  keep : ∀ a o, ¬ Own ρ σ a → H a = some o → H' a = some o
  own : ∀ a, Own ρ' σ' a → Own ρ σ a ∨ H a = none
  dom : ∀ a, H a ≠ none → H' a ≠ none
section
variable {K : PySem.W.Frag} {T : Addr → Prop} {ρ ρ1 ρ2 : Env} {σ σ1 σ2 : L2.St} {H H1 H2 : Hp}
theorem Po.refl : Po ρ σ H ρ σ H := ⟨fun _ _ _ h => h, fun _ h => .inl h, fun _ h => h⟩
theorem Po.trans (p : Po ρ σ H ρ1 σ1 H1) (q : Po ρ1 σ1 H1 ρ2 σ2 H2) : Po ρ σ H ρ2 σ2 H2 where
  keep := fun a o n h => q.keep a o (fun w => by
    rcases p.own a w with w | w
    · exact n w
    · rw [w] at h; cases h) (p.keep a o n h)
  own := fun a w => by
    rcases q.own a w with w | w
    · exact p.own a w
    · by_cases h : H a = none
      · exact .inr h
      · exact absurd w (p.dom a h)
  dom := fun a h => q.dom a (p.dom a h)
theorem Po.fz (p : Po ρ σ H ρ1 σ1 H1) : Ex (hide (Hd T ρ σ) H) (hide (Hd T ρ1 σ1) H1) := fun a o h => by
  obtain ⟨n, h⟩ := hide_some.1 h
  refine hide_some.2 ⟨?_, p.keep a o (fun w => n (.inr w)) h⟩
  rintro (t | w)
  · exact n (.inl t)
  · rcases p.own a w with w | w
    · exact n (.inr w)
    · rw [w] at h; cases h
theorem RS.ownDom (r : RS K T ρ σ H) {a : Addr} (h : Own ρ σ a) : H a ≠ none := by
  obtain ⟨i, m, h1, h2⟩ := h
  obtain ⟨b, o, e1, e2, _⟩ := r.ow i m h1
  rw [h2] at e1; cases e1; rw [e2]; simp
theorem RS.hdDom (r : RS K T ρ σ H) {a : Addr} (h : Hd T ρ σ a) : H a ≠ none := h.elim (r.dom a) r.ownDom
/-- the heap has grown -/
theorem RS.grow (r : RS K T ρ σ H) (e : Ex H H1) : RS K T ρ σ H1 := by
  have ez : Ex (hide (Hd T ρ σ) H) (hide (Hd T ρ σ) H1) := fun a o h => hide_some.2 ⟨(hide_some.1 h).1, e _ _ (hide_some.1 h).2⟩
  refine ⟨r.len, fun i d h => ?_, fun i m h => ?_, r.inj, r.dis, fun a t => ?_, r.tag⟩
  · obtain ⟨v, h1, h2⟩ := r.im i d h; exact ⟨v, h1, h2.mono ez⟩
  · obtain ⟨a, o, h1, h2, h3⟩ := r.ow i m h; exact ⟨a, o, h1, e _ _ h2, h3.mono ez⟩
  · cases q : H a with
    | none => exact absurd q (r.dom a t)
    | some o => rw [e a o q]; simp
theorem Po.grow (e : Ex H H1) : Po ρ σ H ρ σ H1 := ⟨fun a o _ h => e a o h, fun _ h => .inl h, fun a h => by
  cases q : H a with
  | none => exact absurd q h
  | some o => rw [e a o q]; simp⟩
theorem hide_new {O : Addr → Prop} {p : Addr} {o : HO} (hO : ∀ a, O a → H a ≠ none) (h : H p = none) : hide O (upd H p o) p = some o := hide_some.2 ⟨fun w => hO p w h, upd_same⟩
theorem hide_grow {O : Addr → Prop} (e : Ex H H1) : Ex (hide O H) (hide O H1) := fun a o h => hide_some.2 ⟨(hide_some.1 h).1, e _ _ (hide_some.1 h).2⟩
end

/-! ### readings over slots -/
abbrev DE := Env → (D → Env → Prop) → Prop
abbrev DT := Env → (Bool → Env → Prop) → Prop
abbrev DA := Env → (List D → Env → Prop) → Prop
structure DEnds where
  nx : Env → Prop
  rt : D → Env → Prop
  bk : Env → Prop := fun _ => False
  ct : Env → Prop := fun _ => False
abbrev DS := DEnds → Env → Prop
abbrev DG := D → Env → (Env → Prop) → Prop

structure JE (X : Cx) (e : Expr) (f : DE) : Prop where
  ex : ∃ t, PE X e t ∧ ∀ (T : Addr → Prop) (ρ : Env) (σ : L2.St) (H : Hp) (QD : D → Env → Prop) (Q : VK), RS X.K T ρ σ H → f ρ QD →
    (∀ d ρ' v H', RS X.K T ρ' σ H' → Po ρ σ H ρ' σ H' → Rp X.K (hide (Hd T ρ' σ) H') v d → QD d ρ' → Q v H') → t σ H Q
structure JT (X : Cx) (e : Expr) (f : DT) : Prop where
  ex : ∃ t, PT X e t ∧ ∀ (T : Addr → Prop) (ρ : Env) (σ : L2.St) (H : Hp) (QD : Bool → Env → Prop) (Q : Bool → Hp → Prop), RS X.K T ρ σ H → f ρ QD →
    (∀ b ρ' H', RS X.K T ρ' σ H' → Po ρ σ H ρ' σ H' → QD b ρ' → Q b H') → t σ H Q
structure JA (X : Cx) (es : List Expr) (f : DA) : Prop where
  ex : ∃ t, PA X es t ∧ ∀ (T : Addr → Prop) (ρ : Env) (σ : L2.St) (H : Hp) (QD : List D → Env → Prop) (Q : List V → Hp → Prop), RS X.K T ρ σ H → f ρ QD →
    (∀ ds ρ' vs H', RS X.K T ρ' σ H' → Po ρ σ H ρ' σ H' → RpAll X.K (hide (Hd T ρ' σ) H') vs ds → QD ds ρ' → Q vs H') → t σ H Q
structure EndOk (K : PySem.W.Frag) (T : Addr → Prop) (ρ : Env) (σ : L2.St) (H : Hp) (E : DEnds) (D : Ends) : Prop where
  nx : ∀ ρ' σ' H', RS K T ρ' σ' H' → Po ρ σ H ρ' σ' H' → E.nx ρ' → D.nx σ' H'
  rt : ∀ d ρ' σ' v H', RS K T ρ' σ' H' → Po ρ σ H ρ' σ' H' → Rp K (hide (Hd T ρ' σ') H') v d → E.rt d ρ' → D.rt v H'
  bk : ∀ ρ' σ' H', RS K T ρ' σ' H' → Po ρ σ H ρ' σ' H' → E.bk ρ' → D.bk σ' H'
  ct : ∀ ρ' σ' H', RS K T ρ' σ' H' → Po ρ σ H ρ' σ' H' → E.ct ρ' → D.ct σ' H'
structure JS (X : Cx) (st : Stmt) (f : DS) : Prop where
  ex : ∃ t, PS X st t ∧ ∀ (T : Addr → Prop) (ρ : Env) (σ : L2.St) (H : Hp) (E : DEnds) (D : Ends), RS X.K T ρ σ H → f E ρ → EndOk X.K T ρ σ H E D → t D σ H
structure JSs (X : Cx) (st : List Stmt) (f : DS) : Prop where
  ex : ∃ t, PSs X st t ∧ ∀ (T : Addr → Prop) (ρ : Env) (σ : L2.St) (H : Hp) (E : DEnds) (D : Ends), RS X.K T ρ σ H → f E ρ → EndOk X.K T ρ σ H E D → t D σ H
theorem EndOk.step {K : PySem.W.Frag} {T : Addr → Prop} {ρ ρ1 : Env} {σ σ1 : L2.St} {H H1 : Hp} {E : DEnds} {D : Ends} (e : EndOk K T ρ σ H E D) (p : Po ρ σ H ρ1 σ1 H1) : EndOk K T ρ1 σ1 H1 E D :=
  ⟨fun a b c r q => e.nx a b c r (p.trans q), fun a b c d f r q => e.rt a b c d f r (p.trans q), fun a b c r q => e.bk a b c r (p.trans q), fun a b c r q => e.ct a b c r (p.trans q)⟩

/-! ### expressions -/
section
variable {X : Cx} {a b c : Expr} {fa fb fc : DE} {pos : Pos}
def dVar (i : Nat) : DE := fun ρ Q => match ρ[i]? with
  | some (some (SV.im d)) => Q d ρ
  | _ => False
theorem je_var {i : Nat} {x : Str} (hN : X.N[i]? = some x) (hv : Vis X.env.scope x) (hd : (x == ("__debug__" : Str)) = false := by decide) (hcd : (x == ("__classdict__" : Str)) = false := by decide) : JE X (.Name x pos) (dVar i) := by
  refine ⟨tVar i, pe_var hN hv hd hcd, fun T ρ σ H QD Q r h k => ?_⟩
  unfold dVar at h
  split at h
  · rename_i d e
    obtain ⟨v, e1, e2⟩ := r.im i d e
    exact ⟨v, e1, k d ρ v H r .refl e2 h⟩
  · exact False.elim h
def dC (d : D) : DE := fun ρ Q => Q d ρ
theorem je_of {e : Expr} {v : V} {d : D} (h : PE X e (tC v)) (hr : ∀ G, Rp X.K G v d) : JE X e (dC d) := ⟨tC v, h, fun T ρ σ H QD Q r h k => k d ρ v H r .refl (hr _) h⟩
theorem je_int {i : Int} {j} : JE X (.Constant (.int i) j pos) (dC (.int i)) := je_of pe_int fun _ => .int i
theorem je_bl {i : Bool} {j} : JE X (.Constant (.bool i) j pos) (dC (.bool i)) := je_of pe_bl fun _ => .bl i
theorem je_non {j} : JE X (.Constant .none j pos) (dC .none) := je_of pe_non fun _ => .non
theorem je_str {x : Str} {j} : JE X (.Constant (.str x) j pos) (dC (.str x)) := je_of pe_str fun _ => .str x
theorem je_globI {x : Str} {i : Int} {t : Tok} (hm : X.mg x = some (.int i t)) (hg : Gl X x) (hd : (x == ("__debug__" : Str)) = false := by decide) : JE X (.Name x pos) (dC (.int i)) := je_of (pe_glob (v := V.int i) hg hm ⟨t, rfl⟩ hd) fun _ => .int i

/-- a two-place operation by values -/
structure OpD (X : Cx) (f : Value → Value → Sem Value) (op : D → D → (D → Prop) → Prop) : Prop where
  ex : ∃ r : R2, OpR X f r ∧ ∀ (O : Addr → Prop) (H : Hp) (x y : V) (d e : D) (QD : D → Prop) (Q : VK), (∀ a, O a → H a ≠ none) → Rp X.K (hide O H) x d → Rp X.K (hide O H) y e → op d e QD →
    (∀ z v H', Ex H H' → Rp X.K (hide O H') v z → QD z → Q v H') → r x y H Q
def dBin (op : D → D → (D → Prop) → Prop) (fa fb : DE) : DE := fun ρ Q => fa ρ fun x ρ1 => fb ρ1 fun y ρ2 => op x y fun z => Q z ρ2
theorem je_two {e : Expr} {op : D → D → (D → Prop) → Prop} {r : R2} (hr : ∀ (O : Addr → Prop) (H : Hp) (x y : V) (d e : D) (QD : D → Prop) (Q : VK), (∀ a, O a → H a ≠ none) → Rp X.K (hide O H) x d → Rp X.K (hide O H) y e → op d e QD →
    (∀ z v H', Ex H H' → Rp X.K (hide O H') v z → QD z → Q v H') → r x y H Q) (ha : JE X a fa) (hb : JE X b fb) (he : ∀ ta tb, PE X a ta → PE X b tb → PE X e (tOp r ta tb)) : JE X e (dBin op fa fb) := by
  obtain ⟨ta, pa, ka⟩ := ha.ex
  obtain ⟨tb, pb, kb⟩ := hb.ex
  refine ⟨_, he ta tb pa pb, fun T ρ σ H QD Q r h k => ?_⟩
  refine ka T ρ σ H _ _ r h fun d ρ1 v H1 r1 p1 v1 h1 => ?_
  refine kb T ρ1 σ H1 _ _ r1 h1 fun e ρ2 w H2 r2 p2 v2 h2 => ?_
  refine hr (Hd T ρ2 σ) H2 v w d e _ _ (fun a => r2.hdDom) (v1.mono p2.fz) v2 h2 fun z u H3 e3 v3 h3 => ?_
  exact k z ρ2 u H3 (r2.grow e3) ((p1.trans p2).trans (.grow e3)) v3 h3
theorem je_bin {o : Operator} {op : D → D → (D → Prop) → Prop} (ho : OpD X (binaryOp o) op) (ha : JE X a fa) (hb : JE X b fb) : JE X (.BinOp a o b pos) (dBin op fa fb) := by
  obtain ⟨r, h1, h2⟩ := ho.ex
  exact je_two h2 ha hb fun _ _ => pe_op h1
theorem je_cmp {o : CmpOp} {op : D → D → (D → Prop) → Prop} (ho : OpD X (compareOp o) op) (ha : JE X a fa) (hb : JE X b fb) (hm : behindInMarks o b = false) : JE X (.Compare a [o] [b] pos) (dBin op fa fb) := by
  obtain ⟨r, h1, h2⟩ := ho.ex
  exact je_two h2 ha hb fun _ _ pa pb => pe_cmpR h1 pa pb hm
end
end Dn
set_option Elab.async false
set_option linter.all false
set_option maxRecDepth 100000
set_option autoImplicit false
set_option maxHeartbeats 4000000
namespace Dn
open PySem L2 Evl
section
variable {X : Cx} {a b c : Expr} {fa fb fc : DE} {pos : Pos}

/-! ### operators -/
theorem ex_new {O : Addr → Prop} {H : Hp} {p : Addr} {o : HO} (h : H p = none) : Ex (hide O H) (hide O (upd H p o)) := hide_grow (Ex.new h)
/-- a new list, a new tuple of what is known -/
theorem rp_newL {K : PySem.W.Frag} {O : Addr → Prop} {H : Hp} {p : Addr} {vs : List V} {ds : List D} (hO : ∀ a, O a → H a ≠ none) (h : H p = none) (r : RpAll K (hide O H) vs ds) : Rp K (hide O (upd H p (.lst vs))) (.ref p) (.list ds) := .lst (hide_new hO h) (r.mono (ex_new h))
theorem rp_newT {K : PySem.W.Frag} {O : Addr → Prop} {H : Hp} {p : Addr} {vs : List V} {ds : List D} (hO : ∀ a, O a → H a ≠ none) (h : H p = none) (r : RpAll K (hide O H) vs ds) : Rp K (hide O (upd H p (.tup vs))) (.ref p) (.tuple ds) := .tup (hide_new hO h) (r.mono (ex_new h))
theorem lt_of {K : PySem.W.Frag} {H : Hp} {a : Addr} {xs : List V} (h : H a = some (.tup xs)) : SqT K H a xs := .inl (.inl h)
theorem sqt_of {K : PySem.W.Frag} {O : Addr → Prop} {H : Hp} {a : Addr} {xs : List V} (h : hide O H a = some (.tup xs)) : SqT K H a xs := lt_of (hide_ex _ _ h)
theorem sql_of {K : PySem.W.Frag} {O : Addr → Prop} {H : Hp} {a : Addr} {xs : List V} (h : SqL K (hide O H) a xs) : SqL K H a xs := ex_l hide_ex h
theorem at_of {O : Addr → Prop} {H : Hp} {a : Addr} {o : HO} (h : hide O H a = some o) : H a = some o := (hide_some.1 h).2

def dAdd : D → D → (D → Prop) → Prop
  | .int i, .int j => fun Q => Q (.int (i + j))
  | .tuple xs, .tuple ys => fun Q => xs.length + ys.length ≤ 16777216 ∧ Q (.tuple (xs ++ ys))
  | .list xs, .list ys => fun Q => xs.length + ys.length ≤ 16777216 ∧ Q (.list (xs ++ ys))
  | .str x, .str y => fun Q => x.length + y.length ≤ 16777216 ∧ Q (.str (x ++ y))
  | _, _ => fun _ => False
theorem opd_add : OpD X (binaryOp .Add) dAdd := by
  refine ⟨_, .or op_add (.or op_catA (.or op_cat op_add_str)), fun O H x y d e QD Q hO rx ry h k => ?_⟩
  cases rx <;> cases ry <;> first | exact False.elim h | skip
  · exact .inl ⟨_, _, rfl, rfl, k _ _ H (.refl H) (.int _) h⟩
  · obtain ⟨hz, h⟩ := h
    exact .inr (.inr (.inr ⟨_, _, rfl, rfl, hz, k _ _ H (.refl H) (.str _) h⟩))
  · rename_i p xs ds hp rp q ys es hq rq
    obtain ⟨hz, h⟩ := h
    refine .inr (.inr (.inl ⟨_, _, _, _, rfl, rfl, at_of hp, at_of hq, by rw [rp.length, rq.length]; exact hz, fun l hl => k _ _ _ (Ex.new hl) (rp_newL hO hl (rp.append rq)) h⟩))
  · rename_i p xs ds hp rp q ys es hq rq
    obtain ⟨hz, h⟩ := h
    refine .inr (.inl ⟨_, _, _, _, rfl, rfl, sqt_of hp, sqt_of hq, by rw [rp.length, rq.length]; exact hz, fun e => ?_, fun _ e => ?_, fun _ _ l hl => k _ _ _ (Ex.new hl) (rp_newT hO hl (rp.append rq)) h⟩)
    · subst e; cases rp; exact k _ _ H (.refl H) (.tup hq rq) h
    · subst e; cases rq; exact k _ _ H (.refl H) (.tup hp rp) (by simpa using h)
/-- ints alone -/
def dI2 (C : Int → Int → Prop) (g : Int → Int → D) : D → D → (D → Prop) → Prop
  | .int i, .int j => fun Q => C i j ∧ Q (g i j)
  | _, _ => fun _ => False
theorem opd_i2 {f : Value → Value → Sem Value} {C : Int → Int → Prop} {g : Int → Int → D} {gv : Int → Int → V} (ho : OpR X f (rI C gv)) (hg : ∀ i j G, Rp X.K G (gv i j) (g i j)) : OpD X f (dI2 C g) := by
  refine ⟨_, ho, fun O H x y d e QD Q hO rx ry h k => ?_⟩
  cases rx <;> cases ry <;> first | exact False.elim h | skip
  exact ⟨_, _, rfl, rfl, h.1, k _ _ H (.refl H) (hg _ _ _) h.2⟩
theorem opd_i2' {f : Value → Value → Sem Value} {g : Int → Int → D} {gv : Int → Int → V} (ho : OpR X f (rI0 gv)) (hg : ∀ i j G, Rp X.K G (gv i j) (g i j)) : OpD X f (dI2 (fun _ _ => True) g) := by
  refine ⟨_, ho, fun O H x y d e QD Q hO rx ry h k => ?_⟩
  cases rx <;> cases ry <;> first | exact False.elim h | skip
  exact ⟨_, _, rfl, rfl, k _ _ H (.refl H) (hg _ _ _) h.2⟩
abbrev dSub := dI2 (fun _ _ => True) fun i j => .int (i - j)
abbrev dMul := dI2 CMulW fun i j => .int (i * j)
abbrev dFdiv := dI2 CDivW fun i j => .int (i / j)
abbrev dMod := dI2 (fun _ j => 0 < j) fun i j => .int (i % j)
abbrev dPow := dI2 CPow fun i j => .int (i ^ j.toNat)
abbrev dLt := dI2 (fun _ _ => True) fun i j => .bool (decide (i < j))
abbrev dLe := dI2 (fun _ _ => True) fun i j => .bool (decide (i ≤ j))
abbrev dGt := dI2 (fun _ _ => True) fun i j => .bool (decide (j < i))
abbrev dGe := dI2 (fun _ _ => True) fun i j => .bool (decide (j ≤ i))
theorem opd_sub : OpD X (binaryOp .Sub) dSub := opd_i2' op_sub fun _ _ _ => .int _
theorem opd_mul : OpD X (binaryOp .Mult) dMul := opd_i2 op_mulW fun _ _ _ => .int _
theorem opd_fdiv : OpD X (binaryOp .FloorDiv) dFdiv := opd_i2 op_fdivW fun _ _ _ => .int _
theorem opd_mod : OpD X (binaryOp .Mod) dMod := opd_i2 op_mod fun _ _ _ => .int _
theorem opd_pow : OpD X (binaryOp .Pow) dPow := opd_i2 op_pow fun _ _ _ => .int _
theorem opd_lt : OpD X (compareOp .Lt) dLt := opd_i2' op_lt fun _ _ _ => .bl _
theorem opd_le : OpD X (compareOp .LtE) dLe := opd_i2' op_le fun _ _ _ => .bl _
theorem opd_gt : OpD X (compareOp .Gt) dGt := opd_i2' op_gt fun _ _ _ => .bl _
theorem opd_ge : OpD X (compareOp .GtE) dGe := opd_i2' op_ge fun _ _ _ => .bl _

/-! ### equality -/
mutual
theorem Rp.dp {K : PySem.W.Frag} {O : Addr → Prop} {H : Hp} : ∀ {v : V} {d : D}, Rp K (hide O H) v d → d.canLay0 = true → Dp K H v d
  | _, _, .non, _ => .non
  | _, _, .bl _, _ => .bl _
  | _, _, .int _, _ => .int _
  | _, _, .str _, _ => .str _
  | _, _, .lst h r, c => .lst (.inl (.inl (at_of h))) (RpAll.dp r (by simpa only [PyData.canLay0] using c))
  | _, _, .tup h r, c => .tup (sqt_of h) (RpAll.dp r (by simpa only [PyData.canLay0] using c))
  | _, _, .dct _ _ _, c => by simp [PyData.canLay0] at c
  | _, _, .frz _ _, c => by simp [PyData.canLay0] at c
theorem RpAll.dp {K : PySem.W.Frag} {O : Addr → Prop} {H : Hp} : ∀ {v : List V} {d : List D}, RpAll K (hide O H) v d → PyData.canLayAll0 d = true → DpAll K H v d
  | _, _, .nil, _ => .nil
  | _, _, .cons h r, c => by
    simp only [PyData.canLayAll0, Bool.and_eq_true] at c
    exact .cons (Rp.dp h c.1) (RpAll.dp r c.2)
end
theorem shaped_lay {d : D} (h : SeqAt.shaped d = true) : d.canLay0 = true := by
  unfold SeqAt.shaped at h; rw [Bool.and_eq_true] at h; exact h.1
def dEq : D → D → (D → Prop) → Prop := fun x y Q => SeqAt.shaped x = true ∧ SeqAt.shaped y = true ∧ Q (.bool (PyData.eqv x y))
def dNe : D → D → (D → Prop) → Prop := fun x y Q => SeqAt.shaped x = true ∧ SeqAt.shaped y = true ∧ Q (.bool (!PyData.eqv x y))
theorem opd_eq (hu : X.A.units + 64 < cLine) : OpD X (compareOp .Eq) dEq := by
  refine ⟨_, op_eqD hu, fun O H x y d e QD Q hO rx ry h k => ?_⟩
  exact ⟨d, e, rx.dp (shaped_lay h.1), ry.dp (shaped_lay h.2.1), h.1, h.2.1, k _ _ H (.refl H) (.bl _) h.2.2⟩
theorem opd_ne (hu : X.A.units + 64 < cLine) : OpD X (compareOp .NotEq) dNe := by
  refine ⟨_, op_neD hu, fun O H x y d e QD Q hO rx ry h k => ?_⟩
  exact ⟨d, e, rx.dp (shaped_lay h.1), ry.dp (shaped_lay h.2.1), h.1, h.2.1, k _ _ H (.refl H) (.bl _) h.2.2⟩
/-- is None, is True -/
def isN : D → Bool
  | .none => true
  | _ => false
theorem isN_rp {K : PySem.W.Frag} {G : Hp} {v : V} {d : D} (r : Rp K G v d) : decide (v = .non) = isN d := by cases r <;> simp [isN]
def dIs : D → D → (D → Prop) → Prop
  | x, .none => fun Q => Q (.bool (isN x))
  | .bool x, .bool y => fun Q => Q (.bool (decide (x = y)))
  | _, _ => fun _ => False
def dIsNot : D → D → (D → Prop) → Prop
  | x, .none => fun Q => Q (.bool (!isN x))
  | .bool x, .bool y => fun Q => Q (.bool (!decide (x = y)))
  | _, _ => fun _ => False
theorem opd_is : OpD X (compareOp .Is) dIs := by
  refine ⟨_, .or op_isN op_isBl, fun O H x y d e QD Q hO rx ry h k => ?_⟩
  cases ry with
  | non => refine .inl ⟨rfl, k _ _ H (.refl H) (.bl _) ?_⟩; rw [isN_rp rx]; cases d <;> exact h
  | bl y => cases rx <;> first | exact False.elim h | exact .inr ⟨_, _, rfl, rfl, k _ _ H (.refl H) (.bl _) h⟩
  | _ => cases rx <;> exact False.elim h
theorem opd_isnot : OpD X (compareOp .IsNot) dIsNot := by
  refine ⟨_, .or op_notN op_notBl, fun O H x y d e QD Q hO rx ry h k => ?_⟩
  cases ry with
  | non => refine .inl ⟨rfl, k _ _ H (.refl H) (.bl _) ?_⟩; rw [isN_rp rx]; cases d <;> exact h
  | bl y => cases rx <;> first | exact False.elim h | exact .inr ⟨_, _, rfl, rfl, k _ _ H (.refl H) (.bl _) h⟩
  | _ => cases rx <;> exact False.elim h

/-! ### chains, and, or, not, if -/
def dChain (op op' : D → D → (D → Prop) → Prop) (fa fb fc : DE) : DE := fun ρ Q => fa ρ fun x ρ1 => fb ρ1 fun y ρ2 => op x y fun z => match z with
  | .bool true => fc ρ2 fun w ρ3 => op' y w fun z => Q z ρ3
  | .bool false => Q (.bool false) ρ2
  | _ => False
theorem je_chain {o o' : CmpOp} {op op' : D → D → (D → Prop) → Prop} (ho : OpD X (compareOp o) op) (ho' : OpD X (compareOp o') op') (ha : JE X a fa) (hb : JE X b fb) (hc : JE X c fc) (hm : lastMarks [o, o'] [b, c] = false := by with_unfolding_all rfl) :
    JE X (.Compare a [o, o'] [b, c] pos) (dChain op op' fa fb fc) := by
  obtain ⟨r, h1, h2⟩ := ho.ex
  obtain ⟨r', h1', h2'⟩ := ho'.ex
  obtain ⟨ta, pa, ka⟩ := ha.ex
  obtain ⟨tb, pb, kb⟩ := hb.ex
  obtain ⟨tc, pc, kc⟩ := hc.ex
  refine ⟨_, pe_chain h1 h1' pa pb pc hm, fun T ρ σ H QD Q r h k => ?_⟩
  refine ka T ρ σ H _ _ r h fun d ρ1 v H1 r1 p1 v1 h => ?_
  refine kb T ρ1 σ H1 _ _ r1 h fun e ρ2 w H2 r2 p2 v2 h => ?_
  refine h2 (Hd T ρ2 σ) H2 v w d e _ _ (fun a => r2.hdDom) (v1.mono p2.fz) v2 h fun z u H3 e3 v3 h => ?_
  have r3 := r2.grow e3
  have p3 : Po ρ2 σ H2 ρ2 σ H3 := .grow e3
  cases v3 with
  | bl q =>
    refine ⟨q, rfl, ?_⟩
    cases q with
    | false => exact k _ _ _ _ r3 ((p1.trans p2).trans p3) (.bl _) h
    | true =>
      rw [if_pos rfl]
      refine kc T ρ2 σ H3 _ _ r3 h fun g ρ4 y H4 r4 p4 v4 h => ?_
      refine h2' (Hd T ρ4 σ) H4 w y e g _ _ (fun a => r4.hdDom) ((v2.mono p3.fz).mono p4.fz) v4 h fun z u H5 e5 v5 h => ?_
      exact k z ρ4 u H5 (r4.grow e5) (((p1.trans p2).trans p3).trans (p4.trans (.grow e5))) v5 h
  | _ => exact False.elim h
def dAnd (fa fb : DE) : DE := fun ρ Q => fa ρ fun x ρ1 => match x with
  | .bool true => fb ρ1 Q
  | .bool false => Q (.bool false) ρ1
  | _ => False
def dOr (fa fb : DE) : DE := fun ρ Q => fa ρ fun x ρ1 => match x with
  | .bool true => Q (.bool true) ρ1
  | .bool false => fb ρ1 Q
  | _ => False
def dNot (fa : DE) : DE := fun ρ Q => fa ρ fun x ρ1 => match x with
  | .bool b => Q (.bool (!b)) ρ1
  | _ => False
variable {rest : List Expr}
theorem je_one {op} (ha : JE X a fa) : JE X (.BoolOp op [a] pos) fa := let ⟨t, p, k⟩ := ha.ex; ⟨t, pe_one p, k⟩
theorem je_and (ha : JE X a fa) (hb : JE X (.BoolOp .And (b :: rest) pos) fb) : JE X (.BoolOp .And (a :: b :: rest) pos) (dAnd fa fb) := by
  obtain ⟨ta, pa, ka⟩ := ha.ex
  obtain ⟨tb, pb, kb⟩ := hb.ex
  refine ⟨_, pe_and pa pb, fun T ρ σ H QD Q r h k => ?_⟩
  refine ka T ρ σ H _ _ r h fun d ρ1 v H1 r1 p1 v1 h => ?_
  cases v1 with
  | bl q =>
    refine ⟨q, rfl, ?_⟩
    cases q with
    | false => exact k _ _ _ _ r1 p1 (.bl _) h
    | true => exact kb T ρ1 σ H1 _ _ r1 h fun e ρ2 w H2 r2 p2 v2 h => k _ _ _ _ r2 (p1.trans p2) v2 h
  | _ => exact False.elim h
theorem je_or (ha : JE X a fa) (hb : JE X (.BoolOp .Or (b :: rest) pos) fb) : JE X (.BoolOp .Or (a :: b :: rest) pos) (dOr fa fb) := by
  obtain ⟨ta, pa, ka⟩ := ha.ex
  obtain ⟨tb, pb, kb⟩ := hb.ex
  refine ⟨_, pe_or pa pb, fun T ρ σ H QD Q r h k => ?_⟩
  refine ka T ρ σ H _ _ r h fun d ρ1 v H1 r1 p1 v1 h => ?_
  cases v1 with
  | bl q =>
    refine ⟨q, rfl, ?_⟩
    cases q with
    | true => exact k _ _ _ _ r1 p1 (.bl _) h
    | false => exact kb T ρ1 σ H1 _ _ r1 h fun e ρ2 w H2 r2 p2 v2 h => k _ _ _ _ r2 (p1.trans p2) v2 h
  | _ => exact False.elim h
theorem je_not (ha : JE X a fa) : JE X (.UnaryOp .Not a pos) (dNot fa) := by
  obtain ⟨ta, pa, ka⟩ := ha.ex
  refine ⟨_, pe_not pa, fun T ρ σ H QD Q r h k => ?_⟩
  refine ka T ρ σ H _ _ r h fun d ρ1 v H1 r1 p1 v1 h => ?_
  cases v1 with
  | bl q => exact ⟨q, rfl, k _ _ _ _ r1 p1 (.bl _) h⟩
  | _ => exact False.elim h
def dNeg (fa : DE) : DE := fun ρ Q => fa ρ fun x ρ1 => match x with
  | .int i => Q (.int (-i)) ρ1
  | _ => False
theorem je_neg (ha : JE X a fa) : JE X (.UnaryOp .USub a pos) (dNeg fa) := by
  obtain ⟨ta, pa, ka⟩ := ha.ex
  refine ⟨_, pe_un un_neg pa, fun T ρ σ H QD Q r h k => ?_⟩
  refine ka T ρ σ H _ _ r h fun d ρ1 v H1 r1 p1 v1 h => ?_
  cases v1 with
  | int q => exact ⟨q, rfl, k _ _ _ _ r1 p1 (.int _) h⟩
  | _ => exact False.elim h
/-- tests -/
def dTst (fa : DE) : DT := fun ρ Q => fa ρ fun x ρ1 => match x with
  | .bool b => Q b ρ1
  | _ => False
theorem jt_val (ha : JE X a fa) (he : ∀ whole, isTrue a X.env whole = (do let v ← whole; standAt a.pos; holding [v] (truthy v)) := by intro _; rfl) : JT X a (dTst fa) := by
  obtain ⟨ta, pa, ka⟩ := ha.ex
  refine ⟨_, pt_val pa he, fun T ρ σ H QD Q r h k => ?_⟩
  refine ka T ρ σ H _ _ r h fun d ρ1 v H1 r1 p1 v1 h => ?_
  cases v1 with
  | bl q => exact ⟨q, rfl, k _ _ _ r1 p1 h⟩
  | _ => exact False.elim h
theorem jt_cmp {o : CmpOp} {op : D → D → (D → Prop) → Prop} (ho : OpD X (compareOp o) op) (ha : JE X a fa) (hb : JE X b fb) (hm : behindInMarks o b = false) : JT X (.Compare a [o] [b] pos) (dTst (dBin op fa fb)) := by
  obtain ⟨r, h1, h2⟩ := ho.ex
  obtain ⟨ta, pa, ka⟩ := ha.ex
  obtain ⟨tb, pb, kb⟩ := hb.ex
  refine ⟨_, pt_cmpR h1 pa pb hm, fun T ρ σ H QD Q r h k => ?_⟩
  refine ka T ρ σ H _ _ r h fun d ρ1 v H1 r1 p1 v1 h => ?_
  refine kb T ρ1 σ H1 _ _ r1 h fun e ρ2 w H2 r2 p2 v2 h => ?_
  refine h2 (Hd T ρ2 σ) H2 v w d e _ _ (fun a => r2.hdDom) (v1.mono p2.fz) v2 h fun z u H3 e3 v3 h => ?_
  cases v3 with
  | bl q => exact ⟨q, rfl, k _ _ _ (r2.grow e3) ((p1.trans p2).trans (.grow e3)) h⟩
  | _ => exact False.elim h
def dTNot (f : DT) : DT := fun ρ Q => f ρ fun b ρ1 => Q (!b) ρ1
variable {gA gB : DT}
theorem jt_not (ha : JT X a gA) : JT X (.UnaryOp .Not a pos) (dTNot gA) := by
  obtain ⟨ta, pa, ka⟩ := ha.ex
  refine ⟨_, pt_not pa, fun T ρ σ H QD Q r h k => ?_⟩
  exact ka T ρ σ H _ _ r h fun d ρ1 H1 r1 p1 h => k _ _ _ r1 p1 h
def dTAnd (f g : DT) : DT := fun ρ Q => f ρ fun b ρ1 => if b = true then g ρ1 Q else Q false ρ1
def dTOr (f g : DT) : DT := fun ρ Q => f ρ fun b ρ1 => if b = true then Q true ρ1 else g ρ1 Q
structure JW (X : Cx) (e : Expr) (f : DT) : Prop where
  ex : ∃ t, PW X e t ∧ ∀ (T : Addr → Prop) (ρ : Env) (σ : L2.St) (H : Hp) (QD : Bool → Env → Prop) (Q : Bool → Hp → Prop), RS X.K T ρ σ H → f ρ QD →
    (∀ b ρ' H', RS X.K T ρ' σ H' → Po ρ σ H ρ' σ H' → QD b ρ' → Q b H') → t σ H Q
theorem JW.jt (h : JW X a gA) : JT X a gA := let ⟨t, p, k⟩ := h.ex; ⟨t, p.pt, k⟩
theorem jw_and1 (ha : JT X a gA) : JW X (.BoolOp .And [a] pos) gA := let ⟨t, p, k⟩ := ha.ex; ⟨t, pw_and1 p, k⟩
theorem jw_or1 (ha : JT X a gA) : JW X (.BoolOp .Or [a] pos) gA := let ⟨t, p, k⟩ := ha.ex; ⟨t, pw_or1 p, k⟩
theorem jw_and (ha : JT X a gA) (hb : JW X (.BoolOp .And (b :: rest) pos) gB) : JW X (.BoolOp .And (a :: b :: rest) pos) (dTAnd gA gB) := by
  obtain ⟨ta, pa, ka⟩ := ha.ex
  obtain ⟨tb, pb, kb⟩ := hb.ex
  refine ⟨_, pw_and pa pb, fun T ρ σ H QD Q r h k => ?_⟩
  refine ka T ρ σ H _ _ r h fun b ρ1 H1 r1 p1 h => ?_
  cases b with
  | true => exact kb T ρ1 σ H1 _ _ r1 h fun e ρ2 H2 r2 p2 h => k _ _ _ r2 (p1.trans p2) h
  | false => exact k _ _ _ r1 p1 h
theorem jw_or (ha : JT X a gA) (hb : JW X (.BoolOp .Or (b :: rest) pos) gB) : JW X (.BoolOp .Or (a :: b :: rest) pos) (dTOr gA gB) := by
  obtain ⟨ta, pa, ka⟩ := ha.ex
  obtain ⟨tb, pb, kb⟩ := hb.ex
  refine ⟨_, pw_or pa pb, fun T ρ σ H QD Q r h k => ?_⟩
  refine ka T ρ σ H _ _ r h fun b ρ1 H1 r1 p1 h => ?_
  cases b with
  | true => exact k _ _ _ r1 p1 h
  | false => exact kb T ρ1 σ H1 _ _ r1 h fun e ρ2 H2 r2 p2 h => k _ _ _ r2 (p1.trans p2) h
def dIfE (g : DT) (fa fb : DE) : DE := fun ρ Q => g ρ fun b ρ1 => if b = true then fa ρ1 Q else fb ρ1 Q
theorem je_if (hc : JT X c gA) (ha : JE X a fa) (hb : JE X b fb) : JE X (.IfExp c a b pos) (dIfE gA fa fb) := by
  obtain ⟨tc, pc, kc⟩ := hc.ex
  obtain ⟨ta, pa, ka⟩ := ha.ex
  obtain ⟨tb, pb, kb⟩ := hb.ex
  refine ⟨_, pe_ifExp pc pa pb, fun T ρ σ H QD Q r h k => ?_⟩
  refine kc T ρ σ H _ _ r h fun b ρ1 H1 r1 p1 h => ?_
  cases b with
  | true => exact ka T ρ1 σ H1 _ _ r1 h fun e ρ2 w H2 r2 p2 v2 h => k _ _ _ _ r2 (p1.trans p2) v2 h
  | false => exact kb T ρ1 σ H1 _ _ r1 h fun e ρ2 w H2 r2 p2 v2 h => k _ _ _ _ r2 (p1.trans p2) v2 h
end
end Dn
set_option Elab.async false
set_option linter.all false
set_option maxRecDepth 100000
set_option autoImplicit false
set_option maxHeartbeats 4000000
namespace Dn
open PySem L2 Evl
section
variable {K : PySem.W.Frag} {T T' : Addr → Prop} {ρ ρ' ρ1 : Env} {σ σ' σ1 : L2.St} {H H' H1 : Hp}
def plus (T : Addr → Prop) (p : Addr) : Addr → Prop := fun a => a = p ∨ T a
theorem hide_sub {O O' : Addr → Prop} (h : ∀ a, O' a → O a) : Ex (hide O H) (hide O' H) := fun a o e => hide_some.2 ⟨fun w => (hide_some.1 e).1 (h a w), (hide_some.1 e).2⟩
theorem RS.sub (r : RS K T ρ σ H) (h : ∀ a, T' a → T a) : RS K T' ρ σ H := by
  have e : Ex (hide (Hd T ρ σ) H) (hide (Hd T' ρ σ) H) := hide_sub fun a w => w.elim (fun t => .inl (h a t)) .inr
  refine ⟨r.len, fun i d q => ?_, fun i m q => ?_, r.inj, fun a t => r.dis a (h a t), fun a t => r.dom a (h a t), r.tag⟩
  · obtain ⟨v, h1, h2⟩ := r.im i d q; exact ⟨v, h1, h2.mono e⟩
  · obtain ⟨a, o, h1, h2, h3⟩ := r.ow i m q; exact ⟨a, o, h1, h2, h3.mono e⟩
theorem RS.unplus {p : Addr} (r : RS K (plus T p) ρ σ H) : RS K T ρ σ H := r.sub fun _ t => .inr t
theorem hd_unplus {p : Addr} : Ex (hide (Hd (plus T p) ρ σ) H) (hide (Hd T ρ σ) H) := hide_sub fun a w => w.elim (fun t => .inl (.inr t)) .inr
/-- a new object, kept aside -/
theorem RS.laid {p : Addr} {o : HO} (r : RS K T ρ σ H) (h : H p = none) : RS K (plus T p) ρ σ (upd H p o) := by
  have r1 := r.grow (Ex.new (o := o) h)
  have e : Ex (hide (Hd T ρ σ) H) (hide (Hd (plus T p) ρ σ) (upd H p o)) := fun a u w => by
    obtain ⟨n, w⟩ := hide_some.1 w
    refine hide_some.2 ⟨?_, by rw [upd_ne (ne_of_none w h)]; exact w⟩
    rintro ((t | t) | t)
    · subst t; rw [h] at w; cases w
    · exact n (.inl t)
    · exact n (.inr t)
  refine ⟨r.len, fun i d q => ?_, fun i m q => ?_, r.inj, fun a t => ?_, fun a t => ?_, r.tag⟩
  · obtain ⟨v, h1, h2⟩ := r.im i d q; exact ⟨v, h1, h2.mono e⟩
  · obtain ⟨a, u, h1, h2, h3⟩ := r.ow i m q; exact ⟨a, u, h1, by rw [upd_ne (ne_of_none h2 h)]; exact h2, h3.mono e⟩
  · rcases t with t | t
    · subst t; intro w; exact r.ownDom w h
    · exact r.dis a t
  · rcases t with t | t
    · subst t; rw [upd_same]; simp
    · exact r1.dom a t
theorem hd_laid {p : Addr} {o : HO} (h : H p = none) : Ex (hide (Hd T ρ σ) H) (hide (Hd (plus T p) ρ σ) (upd H p o)) := fun a u w => by
  obtain ⟨n, w⟩ := hide_some.1 w
  refine hide_some.2 ⟨?_, by rw [upd_ne (ne_of_none w h)]; exact w⟩
  rintro ((t | t) | t)
  · subst t; rw [h] at w; cases w
  · exact n (.inl t)
  · exact n (.inr t)
theorem getset {α : Type} {l : List (Option α)} {i j : Nat} {x y : Option α} (h : (l.set i x)[j]? = some y) : (i = j ∧ i < l.length ∧ y = x) ∨ (i ≠ j ∧ l[j]? = some y) := by
  by_cases e : i = j
  · subst e
    by_cases l1 : i < l.length
    · rw [List.getElem?_set_self l1] at h; cases h; exact .inl ⟨rfl, l1, rfl⟩
    · rw [List.getElem?_eq_none_iff.mpr (by rw [List.length_set]; omega)] at h; cases h
  · rw [List.getElem?_set_ne e] at h; exact .inr ⟨e, h⟩
theorem own_setIm {i : Nat} {d : D} {v : Option V} {a : Addr} (w : Own (ρ.set i (some (SV.im d))) (σ.set i v) a) : Own ρ σ a := by
  obtain ⟨j, m, h1, h2⟩ := w
  rcases getset h1 with ⟨_, _, h⟩ | ⟨ne, h⟩
  · cases h
  · rw [List.getElem?_set_ne ne] at h2; exact ⟨j, m, h, h2⟩
theorem RS.setIm {i : Nat} {v : V} {d : D} (r : RS K T ρ σ H) (h : Rp K (hide (Hd T ρ σ) H) v d) : RS K T (ρ.set i (some (SV.im d))) (σ.set i (some v)) H := by
  have e : Ex (hide (Hd T ρ σ) H) (hide (Hd T (ρ.set i (some (SV.im d))) (σ.set i (some v))) H) := hide_sub fun a w => w.elim .inl fun w => .inr (own_setIm w)
  refine ⟨by simp [r.len], fun j d' q => ?_, fun j m q => ?_, fun j k m m' a q1 q2 q3 q4 => ?_, fun a t w => r.dis a t (own_setIm w), r.dom, fun j p m a q1 q2 => ?_⟩
  · rcases getset q with ⟨e1, l, h1⟩ | ⟨ne, h1⟩
    · cases h1; subst e1
      exact ⟨v, List.getElem?_set_self (by rw [← r.len]; exact l), h.mono e⟩
    · obtain ⟨u, h2, h3⟩ := r.im j d' h1
      exact ⟨u, by rw [List.getElem?_set_ne ne]; exact h2, h3.mono e⟩
  · rcases getset q with ⟨_, _, h1⟩ | ⟨ne, h1⟩
    · cases h1
    · obtain ⟨a, o, h2, h3, h4⟩ := r.ow j m h1
      exact ⟨a, o, by rw [List.getElem?_set_ne ne]; exact h2, h3, h4.mono e⟩
  · rcases getset q1 with ⟨_, _, h1⟩ | ⟨n1, h1⟩
    · cases h1
    · rcases getset q2 with ⟨_, _, h2⟩ | ⟨n2, h2⟩
      · cases h2
      · rw [List.getElem?_set_ne n1] at q3; rw [List.getElem?_set_ne n2] at q4
        exact r.inj j k m m' a h1 h2 q3 q4
  · rcases getset q1 with ⟨_, _, h1⟩ | ⟨n1, h1⟩
    · cases h1
    · rw [List.getElem?_set_ne n1] at q2; exact r.tag j p m a h1 q2
theorem Po.setIm {i : Nat} {v : V} {d : D} : Po ρ σ H (ρ.set i (some (SV.im d))) (σ.set i (some v)) H := ⟨fun _ _ _ h => h, fun a w => .inl (own_setIm w), fun _ h => h⟩
theorem own_setOw {i : Nat} {m : MO} {p a : Addr} (w : Own (ρ.set i (some (SV.ow m))) (σ.set i (some (V.ref p))) a) : a = p ∨ Own ρ σ a := by
  obtain ⟨j, m', h1, h2⟩ := w
  rcases getset h1 with ⟨e, _, h⟩ | ⟨ne, h⟩
  · subst e
    rcases getset h2 with ⟨_, _, h⟩ | ⟨ne, _⟩
    · cases h; exact .inl rfl
    · exact absurd rfl ne
  · rw [List.getElem?_set_ne ne] at h2; exact .inr ⟨j, m', h, h2⟩
theorem RS.setOw {i : Nat} {p : Addr} {m : MO} {o : HO} (r : RS K (plus T p) ρ σ H) (ho : H p = some o) (h : RpO K (hide (Hd (plus T p) ρ σ) H) m o) (hT : ¬ T p) (hm : ∀ q m', m = .par q m' → p = q) : RS K T (ρ.set i (some (SV.ow m))) (σ.set i (some (V.ref p))) H := by
  have hp : ¬ Own ρ σ p := r.dis p (.inl rfl)
  have e : Ex (hide (Hd (plus T p) ρ σ) H) (hide (Hd T (ρ.set i (some (SV.ow m))) (σ.set i (some (V.ref p)))) H) := hide_sub fun a w => w.elim (fun t => .inl (.inr t)) fun w => (own_setOw w).elim (fun q => .inl (.inl q)) .inr
  refine ⟨by simp [r.len], fun j d' q => ?_, fun j m' q => ?_, fun j k m1 m2 a q1 q2 q3 q4 => ?_, fun a t w => ?_, fun a t => r.dom a (.inr t), fun j q m1 a q1 q2 => ?_⟩
  · rcases getset q with ⟨_, _, h1⟩ | ⟨ne, h1⟩
    · cases h1
    · obtain ⟨u, h2, h3⟩ := r.im j d' h1
      exact ⟨u, by rw [List.getElem?_set_ne ne]; exact h2, h3.mono e⟩
  · rcases getset q with ⟨e1, l, h1⟩ | ⟨ne, h1⟩
    · cases h1; subst e1
      exact ⟨p, o, List.getElem?_set_self (by rw [← r.len]; exact l), ho, h.mono e⟩
    · obtain ⟨a, u, h2, h3, h4⟩ := r.ow j m' h1
      exact ⟨a, u, by rw [List.getElem?_set_ne ne]; exact h2, h3, h4.mono e⟩
  · rcases getset q1 with ⟨e1, l1, h1⟩ | ⟨n1, h1⟩
    · rcases getset q2 with ⟨e2, _, h2⟩ | ⟨n2, h2⟩
      · exact e1.symm.trans e2
      · subst e1
        rcases getset q3 with ⟨_, _, z⟩ | ⟨z, _⟩
        · cases z; rw [List.getElem?_set_ne n2] at q4; exact absurd ⟨k, m2, h2, q4⟩ hp
        · exact absurd rfl z
    · rcases getset q2 with ⟨e2, _, h2⟩ | ⟨n2, h2⟩
      · subst e2
        rcases getset q4 with ⟨_, _, z⟩ | ⟨z, _⟩
        · cases z; rw [List.getElem?_set_ne n1] at q3; exact absurd ⟨j, m1, h1, q3⟩ hp
        · exact absurd rfl z
      · rw [List.getElem?_set_ne n1] at q3; rw [List.getElem?_set_ne n2] at q4
        exact r.inj j k m1 m2 a h1 h2 q3 q4
  · rcases own_setOw w with w | w
    · subst w; exact hT t
    · exact r.dis a (.inr t) w
  · rcases getset q1 with ⟨e1, _, h1⟩ | ⟨n1, h1⟩
    · cases h1; subst e1
      rcases getset q2 with ⟨_, _, h2⟩ | ⟨z, _⟩
      · cases h2; exact hm _ _ rfl
      · exact absurd rfl z
    · rw [List.getElem?_set_ne n1] at q2; exact r.tag j q m1 a h1 q2
theorem Po.setOw {i : Nat} {p : Addr} {m : MO} (q : Po ρ σ H ρ1 σ1 H1) (hp : H p = none) : Po ρ σ H (ρ1.set i (some (SV.ow m))) (σ1.set i (some (V.ref p))) H1 :=
  ⟨q.keep, fun a w => (own_setOw w).elim (fun e => by subst e; exact .inr hp) (q.own a), q.dom⟩
/-- the owned object at slot i is changed -/
theorem RS.write {i : Nat} {p : Addr} {m m' : MO} {o' : HO} (r : RS K T ρ σ H) (hm : ρ[i]? = some (some (SV.ow m))) (hp : σ[i]? = some (some (V.ref p))) (h : RpO K (hide (Hd T ρ σ) H) m' o') (ht : ∀ q m1, m' = .par q m1 → p = q) : RS K T (ρ.set i (some (SV.ow m'))) σ (upd H p o') := by
  have hO : Own ρ σ p := ⟨i, m, hm, hp⟩
  have hw : ∀ a, Own (ρ.set i (some (SV.ow m'))) σ a → Own ρ σ a := fun a ⟨j, m1, h1, h2⟩ => by
    rcases getset h1 with ⟨e, _, _⟩ | ⟨_, h1⟩
    · subst e; rw [hp] at h2; cases h2; exact hO
    · exact ⟨j, m1, h1, h2⟩
  have e : Ex (hide (Hd T ρ σ) H) (hide (Hd T (ρ.set i (some (SV.ow m'))) σ) (upd H p o')) := fun a u w => by
    obtain ⟨n, w⟩ := hide_some.1 w
    have ne : a ≠ p := fun z => n (.inr (z ▸ hO))
    refine hide_some.2 ⟨fun z => n (z.elim .inl fun z => .inr (hw a z)), by rw [upd_ne ne]; exact w⟩
  have il : i < ρ.length := (List.getElem?_eq_some_iff.mp hm).1
  refine ⟨by simp [r.len], fun j d' q => ?_, fun j m1 q => ?_, fun j k m1 m2 a q1 q2 q3 q4 => ?_, fun a t w => r.dis a t (hw a w), fun a t => ?_, fun j q m1 a q1 q2 => ?_⟩
  · rcases getset q with ⟨_, _, h1⟩ | ⟨ne, h1⟩
    · cases h1
    · obtain ⟨u, h2, h3⟩ := r.im j d' h1
      exact ⟨u, h2, h3.mono e⟩
  · rcases getset q with ⟨e1, l, h1⟩ | ⟨ne, h1⟩
    · cases h1; subst e1
      exact ⟨p, o', hp, upd_same, h.mono e⟩
    · obtain ⟨a, u, h2, h3, h4⟩ := r.ow j m1 h1
      have ne' : a ≠ p := fun z => by subst z; exact ne (r.inj i j m m1 a hm h1 hp h2)
      exact ⟨a, u, h2, by rw [upd_ne ne']; exact h3, h4.mono e⟩
  · have back : ∀ (j : Nat) (m1 : MO), (ρ.set i (some (SV.ow m')))[j]? = some (some (SV.ow m1)) → ∃ m2 : MO, ρ[j]? = some (some (SV.ow m2)) := fun j m1 q => by
      rcases getset q with ⟨e, _, _⟩ | ⟨_, h⟩
      · subst e; exact ⟨m, hm⟩
      · exact ⟨m1, h⟩
    obtain ⟨_, h1⟩ := back j m1 q1
    obtain ⟨_, h2⟩ := back k m2 q2
    exact r.inj j k _ _ a h1 h2 q3 q4
  · have ne : a ≠ p := fun z => by subst z; exact r.dis a t hO
    rw [upd_ne ne]; exact r.dom a t
  · rcases getset q1 with ⟨e1, _, h1⟩ | ⟨_, h1⟩
    · cases h1; subst e1; rw [hp] at q2; cases q2; exact ht _ _ rfl
    · exact r.tag j q m1 a h1 q2
theorem Po.write {i : Nat} {p : Addr} {m m' : MO} {o' : HO} (hm : ρ[i]? = some (some (SV.ow m))) (hp : σ[i]? = some (some (V.ref p))) : Po ρ σ H (ρ.set i (some (SV.ow m'))) σ (upd H p o') := by
  have hO : Own ρ σ p := ⟨i, m, hm, hp⟩
  refine ⟨fun a o n h => by rw [upd_ne (fun z => n (by subst z; exact hO))]; exact h, fun a ⟨j, m1, h1, h2⟩ => ?_, fun a h => ?_⟩
  · rcases getset h1 with ⟨e, _, _⟩ | ⟨_, h1⟩
    · subst e; rw [hp] at h2; cases h2; exact .inl hO
    · exact .inl ⟨j, m1, h1, h2⟩
  · by_cases e : a = p
    · subst e; rw [upd_same]; simp
    · rw [upd_ne e]; exact h
/-- an owned object is kept no longer: it stands as it is -/
theorem own_freeze {i : Nat} {d : D} {a : Addr} (w : Own (ρ.set i (some (SV.im d))) σ a) : Own ρ σ a := by
  obtain ⟨j, m, h1, h2⟩ := w
  rcases getset h1 with ⟨_, _, h⟩ | ⟨ne, h⟩
  · cases h
  · exact ⟨j, m, h, h2⟩
theorem RS.freeze {i : Nat} {ds : List D} (r : RS K T ρ σ H) (hm : ρ[i]? = some (some (SV.ow (.lst ds)))) : RS K T (ρ.set i (some (SV.im (.list ds)))) σ H := by
  obtain ⟨p, o, hp, ho, hr⟩ := r.ow i _ hm
  have hO : Own ρ σ p := ⟨i, _, hm, hp⟩
  have e : Ex (hide (Hd T ρ σ) H) (hide (Hd T (ρ.set i (some (SV.im (.list ds)))) σ) H) := hide_sub fun a w => w.elim .inl fun w => .inr (own_freeze w)
  have vis : hide (Hd T (ρ.set i (some (SV.im (.list ds)))) σ) H p = some o := hide_some.2 ⟨fun w => by
    rcases w with w | ⟨j, m, h1, h2⟩
    · exact r.dis p w hO
    · rcases getset h1 with ⟨_, _, h⟩ | ⟨ne, h⟩
      · cases h
      · exact ne (r.inj i j _ m p hm h hp h2), ho⟩
  refine ⟨by simp [r.len], fun j d' q => ?_, fun j m1 q => ?_, fun j k m1 m2 a q1 q2 q3 q4 => ?_, fun a t w => r.dis a t (own_freeze w), r.dom, fun j q m1 a q1 q2 => ?_⟩
  · rcases getset q with ⟨e1, l, h1⟩ | ⟨ne, h1⟩
    · cases h1; subst e1
      cases o with
      | lst vs => exact ⟨.ref p, hp, .lst vis (RpAll.mono e hr)⟩
      | _ => exact False.elim hr
    · obtain ⟨u, h2, h3⟩ := r.im j d' h1
      exact ⟨u, h2, h3.mono e⟩
  · rcases getset q with ⟨_, _, h1⟩ | ⟨ne, h1⟩
    · cases h1
    · obtain ⟨a, u, h2, h3, h4⟩ := r.ow j m1 h1
      exact ⟨a, u, h2, h3, h4.mono e⟩
  · rcases getset q1 with ⟨_, _, h1⟩ | ⟨_, h1⟩
    · cases h1
    · rcases getset q2 with ⟨_, _, h2⟩ | ⟨_, h2⟩
      · cases h2
      · exact r.inj j k m1 m2 a h1 h2 q3 q4
  · rcases getset q1 with ⟨_, _, h1⟩ | ⟨_, h1⟩
    · cases h1
    · exact r.tag j q m1 a h1 q2
theorem Po.freeze {i : Nat} {d : D} : Po ρ σ H (ρ.set i (some (SV.im d))) σ H := ⟨fun _ _ _ h => h, fun a w => .inl (own_freeze w), fun _ h => h⟩
end
end Dn
set_option Elab.async false
set_option linter.all false
set_option maxRecDepth 100000
set_option autoImplicit false
set_option maxHeartbeats 4000000
namespace Dn
open PySem L2 Evl
/-! ### values that may be new objects -/
/-- a value frozen, or a new object that is kept aside -/
def Fits (K : PySem.W.Frag) (T : Addr → Prop) (ρ : Env) (σ : L2.St) (H0 H : Hp) (v : V) : SV → Prop
  | .im d => RS K T ρ σ H ∧ Rp K (hide (Hd T ρ σ) H) v d
  | .ow m => ∃ p o, v = .ref p ∧ H0 p = none ∧ H p = some o ∧ RS K (plus T p) ρ σ H ∧ RpO K (hide (Hd (plus T p) ρ σ) H) m o ∧ ∀ q m', m = .par q m' → False
abbrev DX := Env → (SV → Env → Prop) → Prop
structure JX (X : Cx) (e : Expr) (f : DX) : Prop where
  ex : ∃ t, PE X e t ∧ ∀ (T : Addr → Prop) (ρ : Env) (σ : L2.St) (H : Hp) (QD : SV → Env → Prop) (Q : VK), RS X.K T ρ σ H → f ρ QD →
    (∀ d ρ' v H', Fits X.K T ρ' σ H H' v d → Po ρ σ H ρ' σ H' → QD d ρ' → Q v H') → t σ H Q
abbrev DL := Env → (List D → Env → Prop) → Prop
/-- a new list -/
structure JL (X : Cx) (e : Expr) (f : DL) : Prop where
  ex : ∃ t, PE X e t ∧ ∀ (T : Addr → Prop) (ρ : Env) (σ : L2.St) (H : Hp) (QD : List D → Env → Prop) (Q : VK), RS X.K T ρ σ H → f ρ QD →
    (∀ ds ρ' p vs H', H p = none → H' p = some (.lst vs) → RS X.K (plus T p) ρ' σ H' → RpAll X.K (hide (Hd (plus T p) ρ' σ) H') vs ds → Po ρ σ H ρ' σ H' → QD ds ρ' → Q (.ref p) H') → t σ H Q
section
variable {X : Cx} {a b c e : Expr} {fa fb fc : DE} {pos : Pos} {es : List Expr}
def xIm (f : DE) : DX := fun ρ Q => f ρ fun d => Q (.im d)
def xOw (f : DL) : DX := fun ρ Q => f ρ fun ds => Q (.ow (.lst ds))
def dOfL (f : DL) : DE := fun ρ Q => f ρ fun ds => Q (.list ds)
theorem JE.jx (h : JE X e fa) : JX X e (xIm fa) := let ⟨t, p, k⟩ := h.ex; ⟨t, p, fun T ρ σ H QD Q r h q => k T ρ σ H _ _ r h fun d ρ' v H' r' p' v' h' => q (SV.im d) ρ' v H' ⟨r', v'⟩ p' h'⟩
theorem JL.jx {f : DL} (h : JL X e f) : JX X e (xOw f) := let ⟨t, p, k⟩ := h.ex; ⟨t, p, fun T ρ σ H QD Q r h q => k T ρ σ H _ _ r h fun ds ρ' p vs H' n s r' v' p' h' => q (SV.ow (.lst ds)) ρ' (.ref p) H' ⟨p, .lst vs, rfl, n, s, r', v', fun _ _ z => nomatch z⟩ p' h'⟩
theorem JL.je {f : DL} (h : JL X e f) : JE X e (dOfL f) := by
  obtain ⟨t, p, k⟩ := h.ex
  refine ⟨t, p, fun T ρ σ H QD Q r h q => k T ρ σ H _ _ r h fun ds ρ' p vs H' n s r' v' p' h' => ?_⟩
  refine q _ _ _ _ r'.unplus p' (.lst (hide_some.2 ⟨?_, s⟩) (v'.mono hd_unplus)) h'
  rintro (w | w)
  · exact r.dom p w n
  · exact r'.dis p (.inl rfl) w

/-! ### argument lists, displays -/
def aNil : DA := fun ρ Q => Q [] ρ
def aCons (f : DE) (g : DA) : DA := fun ρ Q => f ρ fun d ρ1 => g ρ1 fun ds ρ2 => Q (d :: ds) ρ2
theorem ja_nil : JA X [] aNil := ⟨tNil, pa_nil, fun T ρ σ H QD Q r h q => q _ _ _ _ r .refl .nil h⟩
theorem ja_cons {g : DA} (ha : JE X e fa) (hr : JA X es g) (hs : starEach (e :: es) X.env = (false, eval e X.env) :: starEach es X.env := by rfl) : JA X (e :: es) (aCons fa g) := by
  obtain ⟨ta, pa, ka⟩ := ha.ex
  obtain ⟨tr, pr, kr⟩ := hr.ex
  refine ⟨_, pa_cons pa pr hs, fun T ρ σ H QD Q r h q => ?_⟩
  refine ka T ρ σ H _ _ r h fun d ρ1 v H1 r1 p1 v1 h => kr T ρ1 σ H1 _ _ r1 h fun ds ρ2 vs H2 r2 p2 v2 h => ?_
  exact q _ _ _ _ r2 (p1.trans p2) (.cons (v1.mono p2.fz) v2) h
def dTup (g : DA) : DE := fun ρ Q => g ρ fun ds ρ1 => ds.length ≤ 16777216 ∧ Q (.tuple ds) ρ1
def lLst (g : DA) : DL := fun ρ Q => g ρ fun ds ρ1 => ds.length ≤ 16777216 ∧ Q ds ρ1
theorem je_tup {g : DA} {x1} (h : JA X es g) : JE X (.Tuple es x1 pos) (dTup g) := by
  obtain ⟨t, p, k⟩ := h.ex
  refine ⟨_, pe_tup p, fun T ρ σ H QD Q r h q => k T ρ σ H _ _ r h fun ds ρ' vs H' r' p' v' h' => ⟨by rw [v'.length]; exact h'.1, fun l hl => ?_⟩⟩
  exact q _ _ _ _ (r'.grow (Ex.new hl)) (p'.trans (.grow (Ex.new hl))) (rp_newT (fun a => r'.hdDom) hl v') h'.2
theorem jl_lst {g : DA} (h : JA X es g) : JL X (.List es pos) (lLst g) := by
  obtain ⟨t, p, k⟩ := h.ex
  refine ⟨_, pe_lst p, fun T ρ σ H QD Q r h q => k T ρ σ H _ _ r h fun ds ρ' vs H' r' p' v' h' => ⟨by rw [v'.length]; exact h'.1, fun l hl => ?_⟩⟩
  refine q _ _ _ _ _ ?_ upd_same (r'.laid hl) (v'.mono (hd_laid hl)) (p'.trans (.grow (Ex.new hl))) h'.2
  cases z : H l with
  | none => rfl
  | some o => exact absurd hl (p'.dom l (by rw [z]; simp))

/-! ### subscripts -/
def seqD : D → Option (List D)
  | .list ds => some ds
  | .tuple ds => some ds
  | .dict [(.none, .tuple ds)] => some ds
  | _ => none
theorem seq_dk (kvs : List (Key × D)) : seqD (.dict (dkD kvs)) = none := by
  cases kvs with
  | nil => rfl
  | cons p r => obtain ⟨k, d⟩ := p; cases k <;> rfl
theorem seq_rp {K : PySem.W.Frag} {O : Addr → Prop} {H : Hp} {v : V} {d : D} {ds : List D} (r : Rp K (hide O H) v d) (h : seqD d = some ds) : ∃ p xs, v = .ref p ∧ (SqL K H p xs ∨ SqT K H p xs) ∧ RpAll K (hide O H) xs ds := by
  cases r
  case dct kws kvs dd h1 h2 h3 =>
    subst h3
    cases kvs with
    | nil => simp [seqD, dkD] at h
    | cons p r => obtain ⟨k, d⟩ := p; cases k <;> simp [seqD, dkD, keyB] at h
  all_goals simp only [seqD, Option.some.injEq, reduceCtorEq] at h
  · subst h; exact ⟨_, _, rfl, .inl (.inl (.inl (at_of (by assumption)))), by assumption⟩
  · subst h; exact ⟨_, _, rfl, .inr (sqt_of (by assumption)), by assumption⟩
  · subst h; exact ⟨_, _, rfl, .inl (sql_of (by assumption)), by assumption⟩
theorem atI_rp {K : PySem.W.Frag} {G : Hp} {vs : List V} {ds : List D} {i : Int} {d : D} (r : RpAll K G vs ds) (h : atI ds i = some d) : ∃ v, atI vs i = some v ∧ Rp K G v d := by
  unfold atI at h ⊢
  rw [r.length]
  cases e : ixN ds.length i with
  | none => rw [e] at h; cases h
  | some j =>
    rw [e] at h
    exact r.get (show ds[j]? = some d from h)
def dIx : D → D → (D → Prop) → Prop := fun x y Q => match seqD x, y with
  | some ds, .int i => ∃ d, atI ds i = some d ∧ Q d
  | _, _ => False
theorem ix_two {O : Addr → Prop} {H : Hp} {x y : V} {d e : D} {QD : D → Prop} {Q : VK} (rx : Rp X.K (hide O H) x d) (ry : Rp X.K (hide O H) y e) (h : dIx d e QD)
    (k : ∀ z v H', Ex H H' → Rp X.K (hide O H') v z → QD z → Q v H') : rIxL X.K x y H Q ∨ rIxT X.K x y H Q := by
  unfold dIx at h
  split at h
  · rename_i ds i e1
    obtain ⟨z, h1, h2⟩ := h
    obtain ⟨p, xs, rfl, hs, r⟩ := seq_rp rx e1
    obtain ⟨v, h3, h4⟩ := atI_rp r h1
    cases ry
    rcases hs with hs | hs
    · exact .inl ⟨_, _, _, _, rfl, rfl, hs, h3, k _ _ H (.refl H) h4 h2⟩
    · exact .inr ⟨_, _, _, _, rfl, rfl, hs, h3, k _ _ H (.refl H) h4 h2⟩
  · exact False.elim h
theorem je_ix (ha : JE X a fa) (hb : JE X b fb) (hs : PlainIx b := by exact fun _ _ => rfl) : JE X (.Subscript a b pos) (dBin dIx fa fb) :=
  je_two (fun O H x y d e QD Q hO rx ry h k => ix_two rx ry h k) ha hb fun _ _ pa pb => pe_ix (.or ix_list ix_tup) pa pb hs
/-- an owned list's item -/
def dIxO (i : Nat) (fb : DE) : DE := fun ρ Q => (∃ m, ρ[i]? = some (some (SV.ow m))) ∧ fb ρ fun y ρ1 => match ρ1[i]?, y with
  | some (some (.ow (.lst ds))), .int j => ∃ d, atI ds j = some d ∧ Q d ρ1
  | _, _ => False
theorem je_ixO {i : Nat} {x : Str} {px : Pos} (hN : X.N[i]? = some x) (hv : Vis X.env.scope x) (hb : JE X b fb) (hs : PlainIx b := by exact fun _ _ => rfl) (hd : (x == ("__debug__" : Str)) = false := by decide) (hcd : (x == ("__classdict__" : Str)) = false := by decide) :
    JE X (.Subscript (.Name x px) b pos) (dIxO i fb) := by
  obtain ⟨tb, pb, kb⟩ := hb.ex
  refine ⟨_, pe_ix ix_list (pe_var hN hv hd hcd) pb hs, fun T ρ σ H QD Q r h q => ?_⟩
  obtain ⟨⟨m, hm⟩, h⟩ := h
  obtain ⟨p, o, hp, _, _⟩ := r.ow i m hm
  refine ⟨_, hp, kb T ρ σ H _ _ r h fun y ρ1 v H1 r1 p1 v1 h => ?_⟩
  split at h
  · rename_i ds j e1
    obtain ⟨d, h1, h2⟩ := h
    obtain ⟨p', o', hp', ho', hr'⟩ := r1.ow i _ e1
    rw [hp] at hp'; cases hp'
    cases o' with
    | lst vs =>
      obtain ⟨u, h3, h4⟩ := atI_rp (show RpAll _ _ vs ds from hr') h1
      cases v1
      exact ⟨_, _, _, _, rfl, rfl, .inl (.inl ho'), h3, q _ _ _ _ r1 p1 h4 h2⟩
    | _ => exact False.elim hr'
  · exact False.elim h

/-! ### slices -/
def cutD (xs : List D) (lo hi : Option Int) : List D := (xs.drop (HT.sIx xs.length 0 lo)).take (HT.sIx xs.length xs.length hi - HT.sIx xs.length 0 lo)
theorem cut_rp {K : PySem.W.Frag} {G : Hp} {vs : List V} {ds : List D} (r : RpAll K G vs ds) (lo hi : Option Int) : RpAll K G (cutV vs lo hi) (cutD ds lo hi) := by
  unfold cutV cutD; rw [r.length]; exact (r.drop _).take _
abbrev DO := Env → (Option Int → Env → Prop) → Prop
structure JO (X : Cx) (e : Option Expr) (f : DO) : Prop where
  ex : ∃ t, PO X e t ∧ ∀ (T : Addr → Prop) (ρ : Env) (σ : L2.St) (H : Hp) (QD : Option Int → Env → Prop) (Q : Option Int → Hp → Prop), RS X.K T ρ σ H → f ρ QD →
    (∀ d ρ' H', RS X.K T ρ' σ H' → Po ρ σ H ρ' σ H' → QD d ρ' → Q d H') → t σ H Q
def oNone : DO := fun ρ Q => Q none ρ
def oSome (f : DE) : DO := fun ρ Q => f ρ fun d ρ1 => match d with
  | .int i => Q (some i) ρ1
  | _ => False
theorem jo_none : JO X none oNone := ⟨tNoPart, po_none, fun T ρ σ H QD Q r h q => q _ _ _ r .refl h⟩
theorem jo_some (ha : JE X a fa) : JO X (some a) (oSome fa) := by
  obtain ⟨ta, pa, ka⟩ := ha.ex
  refine ⟨_, po_some pa, fun T ρ σ H QD Q r h q => ka T ρ σ H _ _ r h fun d ρ1 v H1 r1 p1 v1 h => ?_⟩
  cases v1 with
  | int i => exact ⟨i, rfl, q _ _ _ r1 p1 h⟩
  | _ => exact False.elim h
def dSl (fa : DE) (lo hi : DO) : DE := fun ρ Q => fa ρ fun x ρ1 => lo ρ1 fun l ρ2 => hi ρ2 fun u ρ3 => match x with
  | .list ds => Q (.list (cutD ds l u)) ρ3
  | .tuple ds => Q (.tuple (cutD ds l u)) ρ3
  | _ => False
theorem sl_or {r r' : V → Option Int → Option Int → Hp → VK → Prop} (h : SlR X r) (h' : SlR X r') : SlR X (fun x lo hi H Q => r x lo hi H Q ∨ r' x lo hi H Q) := by
  intro pins s σ H x v vl vu lo hi sl Q I rx hs pl pu q
  rcases q with q | q
  · exact h pins s σ H x v vl vu lo hi sl Q I rx hs pl pu q
  · exact h' pins s σ H x v vl vu lo hi sl Q I rx hs pl pu q
theorem cut_whole {xs : List D} {lo hi : Option Int} (h : HT.sIx xs.length 0 lo = 0 ∧ HT.sIx xs.length xs.length hi = xs.length) : cutD xs lo hi = xs := by
  unfold cutD; rw [h.1, h.2]; simp
theorem je_sl {lo hi : Option Expr} {fl fh : DO} {p2 : Pos} (ha : JE X a fa) (hl : JO X lo fl) (hh : JO X hi fh) : JE X (.Subscript a (.Slice lo hi none p2) pos) (dSl fa fl fh) := by
  obtain ⟨ta, pa, ka⟩ := ha.ex
  obtain ⟨tl, pl, kl⟩ := hl.ex
  obtain ⟨th, ph, kh⟩ := hh.ex
  refine ⟨_, pe_slice (sl_or sl_list sl_tupA) pa pl ph, fun T ρ σ H QD Q r h q => ka T ρ σ H _ _ r h fun d ρ1 v H1 r1 p1 v1 h => kl T ρ1 σ H1 _ _ r1 h fun l ρ2 H2 r2 p2 h => kh T ρ2 σ H2 _ _ r2 h fun u ρ3 H3 r3 p3 h => ?_⟩
  have v3 := (v1.mono p2.fz).mono p3.fz
  have p := (p1.trans p2).trans p3
  cases v3 with
  | lst hp rr =>
    exact .inl ⟨_, _, rfl, .inl (.inl (at_of hp)), fun n hn => q _ _ _ _ (r3.grow (Ex.new hn)) (p.trans (.grow (Ex.new hn))) (rp_newL (fun a => r3.hdDom) hn (cut_rp rr l u)) h⟩
  | tup hp rr =>
    refine .inr ⟨_, _, rfl, sqt_of hp, fun w => ?_, fun w n hn => q _ _ _ _ (r3.grow (Ex.new hn)) (p.trans (.grow (Ex.new hn))) (rp_newT (fun a => r3.hdDom) hn (cut_rp rr l u)) h⟩
    rw [rr.length] at w
    dsimp only at h; rw [cut_whole w] at h
    exact q _ _ _ _ r3 p (.tup hp rr) h
  | _ => exact False.elim h
end
end Dn
set_option Elab.async false
set_option linter.all false
set_option maxRecDepth 100000
set_option autoImplicit false
set_option maxHeartbeats 4000000
namespace Dn
open PySem L2 Evl
/-! ### calls -/
section
variable {X : Cx} {a b c e : Expr} {fa fb fc : DE} {pos p : Pos} {es : List Expr} {x : Str}
structure CallD (X : Cx) (f : Value) (op : List D → (D → Prop) → Prop) : Prop where
  ex : ∃ r, CallR X f r ∧ ∀ (O : Addr → Prop) (H : Hp) (vs : List V) (ds : List D) (QD : D → Prop) (Q : VK), (∀ a, O a → H a ≠ none) → RpAll X.K (hide O H) vs ds → op ds QD →
    (∀ z v H', Ex H H' → Rp X.K (hide O H') v z → QD z → Q v H') → r vs H Q
def dCall (op : List D → (D → Prop) → Prop) (g : DA) : DE := fun ρ Q => g ρ fun ds ρ1 => op ds fun z => Q z ρ1
theorem je_callB {id : String} {op : List D → (D → Prop) → Prop} {g : DA} (hc : CallD X (.builtin id) op) (hm : X.mg x = none) (hv : bootBuiltins x = some (.builtin id)) (ha : JA X (e :: es) g) (hg : Gl X x := by rfl) (hn : x ≠ "__name__" := by decide) (hdb : (x == ("__debug__" : Str)) = false := by decide)
    (he : starEach (e :: es) X.env = (false, eval e X.env) :: starEach es X.env := by rfl) (hpl : (backTo pos (starEach es X.env)).any (·.1) = false := by rfl) : JE X (.Call (.Name x p) (e :: es) [] pos) (dCall op g) := by
  obtain ⟨r, h1, h2⟩ := hc.ex
  obtain ⟨t, pa, ka⟩ := ha.ex
  refine ⟨_, pe_callB h1 hg hm hv pa hn hdb he hpl, fun T ρ σ H QD Q r h q => ka T ρ σ H _ _ r h fun ds ρ1 vs H1 r1 p1 v1 h => ?_⟩
  exact h2 (Hd T ρ1 σ) H1 vs ds _ _ (fun a => r1.hdDom) v1 h fun z v H' e v2 h => q _ _ _ _ (r1.grow e) (p1.trans (.grow e)) v2 h
theorem je_callTy {id : String} {op : List D → (D → Prop) → Prop} {g : DA} (hc : CallD X (.type id) op) (hm : X.mg x = none) (hv : bootBuiltins x = some (.type id)) (ha : JA X (e :: es) g) (hg : Gl X x := by rfl) (hn : x ≠ "__name__" := by decide) (hdb : (x == ("__debug__" : Str)) = false := by decide)
    (he : starEach (e :: es) X.env = (false, eval e X.env) :: starEach es X.env := by rfl) (hpl : (backTo pos (starEach es X.env)).any (·.1) = false := by rfl) : JE X (.Call (.Name x p) (e :: es) [] pos) (dCall op g) := by
  obtain ⟨r, h1, h2⟩ := hc.ex
  obtain ⟨t, pa, ka⟩ := ha.ex
  refine ⟨_, pe_callTy h1 hg hm hv pa hn hdb he hpl, fun T ρ σ H QD Q r h q => ka T ρ σ H _ _ r h fun ds ρ1 vs H1 r1 p1 v1 h => ?_⟩
  exact h2 (Hd T ρ1 σ) H1 vs ds _ _ (fun a => r1.hdDom) v1 h fun z v H' e v2 h => q _ _ _ _ (r1.grow e) (p1.trans (.grow e)) v2 h
/-- an owned list is looked at: a plain value comes -/
def isSc : D → Bool
  | .list _ => false
  | .tuple _ => false
  | .dict _ => false
  | _ => true
theorem sc_rp {K : PySem.W.Frag} {G G' : Hp} {v : V} {d : D} (h : isSc d = true) (r : Rp K G v d) : Rp K G' v d := by
  cases r <;> first | (simp [isSc] at h; done) | constructor
def dCallO (i : Nat) (op : List D → (D → Prop) → Prop) : DE := fun ρ Q => match ρ[i]? with
  | some (some (.ow (.lst ds))) => op [.list ds] fun z => isSc z = true ∧ Q z ρ
  | _ => False
theorem je_callBO {i : Nat} {y : Str} {py : Pos} {id : String} {op : List D → (D → Prop) → Prop} (hc : CallD X (.builtin id) op) (hm : X.mg x = none) (hv : bootBuiltins x = some (.builtin id)) (hN : X.N[i]? = some y) (hy : Vis X.env.scope y) (hg : Gl X x := by rfl) (hn : x ≠ "__name__" := by decide) (hdb : (x == ("__debug__" : Str)) = false := by decide)
    (hd : (y == ("__debug__" : Str)) = false := by decide) (hcd : (y == ("__classdict__" : Str)) = false := by decide)
    (he : starEach [Expr.Name y py] X.env = (false, eval (Expr.Name y py) X.env) :: starEach [] X.env := by rfl) : JE X (.Call (.Name x p) [.Name y py] [] pos) (dCallO i op) := by
  obtain ⟨r, h1, h2⟩ := hc.ex
  refine ⟨_, pe_callB h1 hg hm hv (pa_cons (pe_var hN hy hd hcd) pa_nil he) hn hdb he, fun T ρ σ H QD Q r h q => ?_⟩
  unfold dCallO at h
  split at h
  · rename_i ds e1
    obtain ⟨a, o, ha, ho, hr⟩ := r.ow i _ e1
    have rf := r.freeze e1
    obtain ⟨v, hv, rv⟩ := rf.im i (.list ds) (List.getElem?_set_self (List.getElem?_eq_some_iff.mp e1).1)
    rw [ha] at hv; cases hv
    refine ⟨_, ha, h2 _ H _ _ _ _ (fun a => rf.hdDom) (.cons rv .nil) h fun z v H' e v2 h => ?_⟩
    exact q _ _ _ _ (r.grow e) (.grow e) (sc_rp h.1 v2) h.2
  · exact False.elim h
def dBinO (i : Nat) (op : D → D → (D → Prop) → Prop) (fb : DE) : DE := fun ρ Q => (∃ m, ρ[i]? = some (some (SV.ow m))) ∧ fb ρ fun y ρ1 => match ρ1[i]? with
  | some (some (.ow (.lst ds))) => op (.list ds) y fun z => isSc z = true ∧ Q z ρ1
  | _ => False
theorem hd_freeze {T : Addr → Prop} {ρ : Env} {σ : L2.St} {H : Hp} {i : Nat} {d : D} : Ex (hide (Hd T ρ σ) H) (hide (Hd T (ρ.set i (some (SV.im d))) σ) H) := hide_sub fun a w => w.elim .inl fun w => .inr (own_freeze w)
theorem two_O {op : D → D → (D → Prop) → Prop} {i : Nat} {y : Str} {py : Pos} {r : R2} (hN : X.N[i]? = some y) (hy : Vis X.env.scope y) (hd : (y == ("__debug__" : Str)) = false := by decide) (hcd : (y == ("__classdict__" : Str)) = false := by decide)
    (hr : ∀ (O : Addr → Prop) (H : Hp) (x y : V) (d e : D) (QD : D → Prop) (Q : VK), (∀ a, O a → H a ≠ none) → Rp X.K (hide O H) x d → Rp X.K (hide O H) y e → op d e QD → (∀ z v H', Ex H H' → Rp X.K (hide O H') v z → QD z → Q v H') → r x y H Q)
    (hb : JE X b fb) (he : ∀ ta tb, PE X (.Name y py) ta → PE X b tb → PE X e (tOp r ta tb)) : JE X e (dBinO i op fb) := by
  obtain ⟨tb, pb, kb⟩ := hb.ex
  refine ⟨_, he _ tb (pe_var hN hy hd hcd) pb, fun T ρ σ H QD Q r h q => ?_⟩
  obtain ⟨⟨m, hm⟩, h⟩ := h
  obtain ⟨a, o, ha, _, _⟩ := r.ow i m hm
  refine ⟨_, ha, kb T ρ σ H _ _ r h fun y ρ1 v H1 r1 p1 v1 h => ?_⟩
  split at h
  · rename_i ds e1
    have rf := r1.freeze e1
    obtain ⟨u, hu, ru⟩ := rf.im i (.list ds) (List.getElem?_set_self (List.getElem?_eq_some_iff.mp e1).1)
    rw [ha] at hu; cases hu
    exact hr _ H1 _ _ _ _ _ _ (fun a => rf.hdDom) ru (v1.mono hd_freeze) h fun z w H' e v2 h => q _ _ _ _ (r1.grow e) (p1.trans (.grow e)) (sc_rp h.1 v2) h.2
  · exact False.elim h
theorem je_cmpO {op : D → D → (D → Prop) → Prop} {i : Nat} {y : Str} {py : Pos} {o : CmpOp} (ho : OpD X (compareOp o) op) (hN : X.N[i]? = some y) (hy : Vis X.env.scope y) (hb : JE X b fb) (hm : behindInMarks o b = false)
    (hd : (y == ("__debug__" : Str)) = false := by decide) (hcd : (y == ("__classdict__" : Str)) = false := by decide) : JE X (.Compare (.Name y py) [o] [b] pos) (dBinO i op fb) := by
  obtain ⟨r, h1, h2⟩ := ho.ex
  exact two_O hN hy hd hcd h2 hb fun _ _ pa pb => pe_cmpR h1 pa pb hm

/-! ### built-ins -/
def dLen : List D → (D → Prop) → Prop
  | [d] => fun Q => match seqD d with
    | some ds => Q (.int ds.length)
    | none => False
  | _ => fun _ => False
theorem calld_len : CallD X (.builtin "len") dLen := by
  refine ⟨_, call_len_seq, fun O H vs ds QD Q hO r h k => ?_⟩
  cases r with
  | nil => exact False.elim h
  | cons r rr =>
    cases rr with
    | cons _ _ => exact False.elim h
    | nil =>
      unfold dLen at h; dsimp only at h
      split at h
      · rename_i ds e
        obtain ⟨p, xs, rfl, hs, rx⟩ := seq_rp r e
        exact ⟨_, _, rfl, hs, k _ _ H (.refl H) (.int _) (by rw [rx.length]; exact h)⟩
      · exact False.elim h
def dAbs : List D → (D → Prop) → Prop
  | [.int i] => fun Q => Q (.int (if i < 0 then -i else i))
  | _ => fun _ => False
theorem rp1 {K : PySem.W.Frag} {G : Hp} {vs : List V} {d : D} (r : RpAll K G vs [d]) : ∃ v, vs = [v] ∧ Rp K G v d := by
  cases r with
  | cons r rr => cases rr; exact ⟨_, rfl, r⟩
theorem rp2 {K : PySem.W.Frag} {G : Hp} {vs : List V} {d e : D} (r : RpAll K G vs [d, e]) : ∃ v u, vs = [v, u] ∧ Rp K G v d ∧ Rp K G u e := by
  cases r with
  | cons r rr => obtain ⟨u, rfl, h⟩ := rp1 rr; exact ⟨_, _, rfl, r, h⟩
theorem calld_abs : CallD X (.builtin "abs") dAbs := by
  refine ⟨_, call_abs, fun O H vs ds QD Q hO r h k => ?_⟩
  unfold dAbs at h
  split at h
  · obtain ⟨v, rfl, w1⟩ := rp1 r
    cases w1
    exact ⟨_, rfl, k _ _ H (.refl H) (.int _) h⟩
  · exact False.elim h
def dMax2 : List D → (D → Prop) → Prop
  | [.int i, .int j] => fun Q => Q (.int (if j > i then j else i))
  | _ => fun _ => False
theorem calld_max2 (hc : X.calm = true) : CallD X (.builtin "max") dMax2 := by
  refine ⟨_, call_max2 hc, fun O H vs ds QD Q hO r h k => ?_⟩
  unfold dMax2 at h
  split at h
  · obtain ⟨v, u, rfl, r1, r2⟩ := rp2 r
    cases r1; cases r2
    exact ⟨_, _, rfl, k _ _ H (.refl H) (.int _) h⟩
  · exact False.elim h
def dMin2 : List D → (D → Prop) → Prop
  | [.int i, .int j] => fun Q => Q (.int (if j < i then j else i))
  | _ => fun _ => False
theorem calld_min2 (hc : X.calm = true) : CallD X (.builtin "min") dMin2 := by
  refine ⟨_, call_min2 hc, fun O H vs ds QD Q hO r h k => ?_⟩
  unfold dMin2 at h
  split at h
  · obtain ⟨v, u, rfl, r1, r2⟩ := rp2 r
    cases r1; cases r2
    exact ⟨_, _, rfl, k _ _ H (.refl H) (.int _) h⟩
  · exact False.elim h
def dInt : List D → (D → Prop) → Prop
  | [.int i] => fun Q => Q (.int i)
  | [.bool b] => fun Q => Q (.int (if b then 1 else 0))
  | _ => fun _ => False
theorem calld_int : CallD X (.type "int") dInt := by
  refine ⟨_, call_int1, fun O H vs ds QD Q hO r h k => ?_⟩
  unfold dInt at h
  split at h
  · obtain ⟨v, rfl, w1⟩ := rp1 r
    cases w1
    exact .inl ⟨_, rfl, k _ _ H (.refl H) (.int _) h⟩
  · obtain ⟨v, rfl, w1⟩ := rp1 r
    cases w1
    exact .inr ⟨_, rfl, k _ _ H (.refl H) (.int _) h⟩
  · exact False.elim h
def dAll (ds : List D) (Q : D → Prop) : Prop := ∃ bs : List Bool, ds = [.list (bs.map PyData.bool)] ∧ Q (.bool (bs.all id))
def dAny (ds : List D) (Q : D → Prop) : Prop := ∃ bs : List Bool, ds = [.list (bs.map PyData.bool)] ∧ Q (.bool (bs.any id))
def dSum (ds : List D) (Q : D → Prop) : Prop := ∃ ns : List Int, ds = [.list (ns.map PyData.int)] ∧ Q (.int ns.sum)
theorem calld_all (hc : X.calm = true) : CallD X (.builtin "all") dAll := by
  refine ⟨_, cr_all hc, fun O H vs ds QD Q hO r h k => ?_⟩
  obtain ⟨bs, rfl, h⟩ := h
  obtain ⟨v, rfl, w1⟩ := rp1 r
  cases w1 with
  | lst hp rr =>
    obtain rfl := rr.of_bls
    exact ⟨_, bs, rfl, .inl (.inl (at_of hp)), k _ _ H (.refl H) (.bl _) h⟩
theorem calld_any (hc : X.calm = true) : CallD X (.builtin "any") dAny := by
  refine ⟨_, cr_any hc, fun O H vs ds QD Q hO r h k => ?_⟩
  obtain ⟨bs, rfl, h⟩ := h
  obtain ⟨v, rfl, w1⟩ := rp1 r
  cases w1 with
  | lst hp rr =>
    obtain rfl := rr.of_bls
    exact ⟨_, bs, rfl, .inl (.inl (at_of hp)), k _ _ H (.refl H) (.bl _) h⟩
theorem calld_sum (hc : X.calm = true) : CallD X (.builtin "sum") dSum := by
  refine ⟨_, cr_sum hc, fun O H vs ds QD Q hO r h k => ?_⟩
  obtain ⟨bs, rfl, h⟩ := h
  obtain ⟨v, rfl, w1⟩ := rp1 r
  cases w1 with
  | lst hp rr =>
    obtain rfl := rr.of_ints
    exact ⟨_, bs, rfl, .inl (.inl (at_of hp)), k _ _ H (.refl H) (.int _) h⟩
def dTupOf : List D → (D → Prop) → Prop
  | [.list ds] => fun Q => Q (.tuple ds)
  | [.tuple ds] => fun Q => Q (.tuple ds)
  | _ => fun _ => False
theorem calld_tuple : CallD X (.type "tuple") dTupOf := by
  refine ⟨_, call_tuple_of, fun O H vs ds QD Q hO r h k => ?_⟩
  unfold dTupOf at h
  split at h
  · obtain ⟨v, rfl, w1⟩ := rp1 r
    cases w1 with
    | lst hp rr => exact ⟨_, _, rfl, .inl ⟨.inl (.inl (at_of hp)), fun l hl => k _ _ _ (Ex.new hl) (rp_newT hO hl rr) h⟩⟩
  · obtain ⟨v, rfl, w1⟩ := rp1 r
    cases w1 with
    | tup hp rr => exact ⟨_, _, rfl, .inr ⟨sqt_of hp, k _ _ H (.refl H) (.tup hp rr) h⟩⟩
  · exact False.elim h
/-- isinstance -/
def tyN : D → String
  | .none => "NoneType"
  | .bool _ => "bool"
  | .int _ => "int"
  | .str _ => "str"
  | .list _ => "list"
  | .tuple _ => "tuple"
  | .dict ((.none, _) :: _) => "list"
  | .dict _ => "dict"
theorem tyN_dk (kvs : List (Key × D)) : tyN (.dict (dkD kvs)) = "dict" := by
  cases kvs with
  | nil => rfl
  | cons p r => obtain ⟨k, d⟩ := p; cases k <;> rfl
theorem ty_rp {K : PySem.W.Frag} {O : Addr → Prop} {H : Hp} {v : V} {d : D} (r : Rp K (hide O H) v d) : TyX K H v (.type (tyN d)) := by
  cases r with
  | non => exact .base .non
  | bl b => exact .base (.bl b)
  | int b => exact .base (.int b)
  | str b => exact .base (.str b)
  | lst h _ => exact .base (.lst (at_of h))
  | dct h _ z => subst z; rw [tyN_dk]; exact .base (.dK (at_of h))
  | tup h _ =>
    rcases sqt_of h with (h | ⟨o, h⟩) | ⟨o, its, n, h1, h2, _⟩
    · exact .base (.tup h)
    · exact .fTuple h
    · exact .kTuple h1 h2
  | frz h _ =>
    rcases sql_of h with (h | ⟨o, h⟩) | ⟨o, its, n, h1, h2, _⟩
    · exact .base (.lst h)
    · exact .base (.frz h)
    · exact .kList h1 h2
def dIsi (tn : String) (fa : DE) : DE := fun ρ Q => fa ρ fun d ρ1 => match kitB (tyN d) tn with
  | some b => Q (.bool b) ρ1
  | none => False
theorem je_isi {tn : String} {y : Str} {py : Pos} (hm : X.mg "isinstance" = none) (hmy : X.mg y = none) (hvy : bootBuiltins y = some (.type tn)) (ha : JE X a fa) (hg : Gl X "isinstance" := by rfl) (hgy : Gl X y := by rfl) (hny : y ≠ "__name__" := by decide) (hdb : (y == ("__debug__" : Str)) = false := by decide)
    (h1 : starEach [a, Expr.Name y py] X.env = (false, eval a X.env) :: starEach [Expr.Name y py] X.env := by rfl) (h2 : starEach [Expr.Name y py] X.env = (false, eval (Expr.Name y py) X.env) :: starEach [] X.env := by rfl) (h3 : (backTo pos (starEach [Expr.Name y py] X.env)).any (·.1) = false := by rfl) :
    JE X (.Call (.Name "isinstance" p) [a, .Name y py] [] pos) (dIsi tn fa) := by
  obtain ⟨ta, pa, ka⟩ := ha.ex
  refine ⟨_, pe_callB call_isi hg hm (by decide +kernel) (pa_cons pa (pa_cons (pe_bltn (v := .ty tn) hgy hmy hvy rfl hny hdb) pa_nil h2) h1) (by decide) (by decide) h1 h3, fun T ρ σ H QD Q r h q => ka T ρ σ H _ _ r h fun d ρ1 v H1 r1 p1 v1 h => ?_⟩
  split at h
  · rename_i b e
    exact ⟨v, .ty tn, .type (tyN d), .type tn, b, rfl, .ty tn, ty_rp v1, kit_ty e, q _ _ _ _ r1 p1 (.bl b) h⟩
  · exact False.elim h
/-- new lists -/
def lOf (f : DE) : DL := fun ρ Q => f ρ fun d ρ1 => match seqD d with
  | some ds => Q ds ρ1
  | none => False
theorem none_back {ρ ρ' : Env} {σ σ' : L2.St} {H H' : Hp} {l : Addr} (q : Po ρ σ H ρ' σ' H') (h : H' l = none) : H l = none := by
  cases z : H l with
  | none => rfl
  | some o => exact absurd h (q.dom l (by rw [z]; simp))
theorem jl_list (hm : X.mg "list" = none) (ha : JE X a fa) (hg : Gl X "list" := by rfl) (he : starEach [a] X.env = (false, eval a X.env) :: starEach [] X.env := by rfl) : JL X (.Call (.Name "list" p) [a] [] pos) (lOf fa) := by
  obtain ⟨ta, pa, ka⟩ := ha.ex
  refine ⟨_, pe_callTy call_list_of hg hm (by decide +kernel) (pa_cons pa pa_nil he) (by decide) (by decide) he, fun T ρ σ H QD Q r h q => ka T ρ σ H _ _ r h fun d ρ1 v H1 r1 p1 v1 h => ?_⟩
  split at h
  · rename_i ds e
    obtain ⟨p, xs, rfl, hs, rx⟩ := seq_rp v1 e
    exact ⟨_, _, rfl, hs, fun l hl => q _ _ _ _ _ (none_back p1 hl) upd_same (r1.laid hl) (rx.mono (hd_laid hl)) (p1.trans (.grow (Ex.new hl))) h⟩
  · exact False.elim h
/-- list(x), tuple(x) of an owned list x -/
def lOfO (i : Nat) : DL := fun ρ Q => match ρ[i]? with
  | some (some (.ow (.lst ds))) => Q ds ρ
  | _ => False
theorem jl_listO {i : Nat} {y : Str} {py : Pos} (hm : X.mg "list" = none) (hN : X.N[i]? = some y) (hy : Vis X.env.scope y) (hg : Gl X "list" := by rfl) (hd : (y == ("__debug__" : Str)) = false := by decide) (hcd : (y == ("__classdict__" : Str)) = false := by decide)
    (he : starEach [Expr.Name y py] X.env = (false, eval (Expr.Name y py) X.env) :: starEach [] X.env := by rfl) : JL X (.Call (.Name "list" p) [.Name y py] [] pos) (lOfO i) := by
  refine ⟨_, pe_callTy call_list_of hg hm (by decide +kernel) (pa_cons (pe_var hN hy hd hcd) pa_nil he) (by decide) (by decide) he, fun T ρ σ H QD Q r h q => ?_⟩
  unfold lOfO at h
  split at h
  · rename_i ds e
    obtain ⟨a, o, ha, ho, hr⟩ := r.ow i _ e
    cases o with
    | lst vs => exact ⟨_, ha, _, _, rfl, .inl (.inl (.inl ho)), fun l hl => q _ _ _ _ _ hl upd_same (r.laid hl) (RpAll.mono (hd_laid hl) hr) (.grow (Ex.new hl)) h⟩
    | _ => exact False.elim hr
  · exact False.elim h
def dTupO (i : Nat) : DE := fun ρ Q => match ρ[i]? with
  | some (some (.ow (.lst ds))) => Q (.tuple ds) ρ
  | _ => False
theorem je_tupleO {i : Nat} {y : Str} {py : Pos} (hm : X.mg "tuple" = none) (hN : X.N[i]? = some y) (hy : Vis X.env.scope y) (hg : Gl X "tuple" := by rfl) (hd : (y == ("__debug__" : Str)) = false := by decide) (hcd : (y == ("__classdict__" : Str)) = false := by decide)
    (he : starEach [Expr.Name y py] X.env = (false, eval (Expr.Name y py) X.env) :: starEach [] X.env := by rfl) : JE X (.Call (.Name "tuple" p) [.Name y py] [] pos) (dTupO i) := by
  refine ⟨_, pe_callTy call_tuple_of hg hm (by decide +kernel) (pa_cons (pe_var hN hy hd hcd) pa_nil he) (by decide) (by decide) he, fun T ρ σ H QD Q r h q => ?_⟩
  unfold dTupO at h
  split at h
  · rename_i ds e
    obtain ⟨a, o, ha, ho, hr⟩ := r.ow i _ e
    cases o with
    | lst vs => exact ⟨_, ha, _, _, rfl, .inl ⟨.inl (.inl ho), fun l hl => q _ _ _ _ (r.grow (Ex.new hl)) (.grow (Ex.new hl)) (rp_newT (fun a => r.hdDom) hl hr) h⟩⟩
    | _ => exact False.elim hr
  · exact False.elim h
/-- ranges -/
def rgD (i j : Int) : List D := (List.range (j - i).toNat).map fun k => PyData.int (i + (k : Nat))
def RgD (i j : Int) : Prop := -1000000 ≤ i ∧ i ≤ 1000000 ∧ -1000000 ≤ j ∧ j ≤ 1000000
theorem rg_ok {i j : Int} (h : RgD i j) : RgOk i j := by unfold RgD at h; exact ⟨by omega, by omega, by omega, by omega, by omega⟩
theorem rg_rp {K : PySem.W.Frag} {G : Hp} (i j : Int) : RpAll K G (rgV i j) (rgD i j) := by
  have : rgV i j = ((List.range (j - i).toNat).map fun k => i + (k : Nat)).map V.int := by unfold rgV; simp
  rw [this, show rgD i j = ((List.range (j - i).toNat).map fun k => i + (k : Nat)).map PyData.int from by unfold rgD; simp]
  exact RpAll.ints _
abbrev DR := Env → (Int → Int → Env → Prop) → Prop
structure JR (X : Cx) (e : Expr) (f : DR) : Prop where
  ex : ∃ t, PRg X e t ∧ ∀ (T : Addr → Prop) (ρ : Env) (σ : L2.St) (H : Hp) (QD : Int → Int → Env → Prop) (Q : Int → Int → Hp → Prop), RS X.K T ρ σ H → f ρ QD →
    (∀ i j ρ' H', RS X.K T ρ' σ H' → Po ρ σ H ρ' σ H' → QD i j ρ' → Q i j H') → t σ H Q
def rg1 (fa : DE) : DR := fun ρ Q => fa ρ fun d ρ1 => match d with
  | .int n => Q 0 n ρ1
  | _ => False
def rg2 (fa fb : DE) : DR := fun ρ Q => fa ρ fun d ρ1 => fb ρ1 fun e ρ2 => match d, e with
  | .int n, .int m => Q n m ρ2
  | _, _ => False
theorem jr_1 (hm : X.mg "range" = none) (ha : JE X a fa) (hg : Gl X "range" := by rfl) (na : starEach [a] X.env = (false, eval a X.env) :: starEach [] X.env := by rfl) : JR X (.Call (.Name "range" p) [a] [] pos) (rg1 fa) := by
  obtain ⟨ta, pa, ka⟩ := ha.ex
  refine ⟨_, prg_1 hg hm pa na, fun T ρ σ H QD Q r h q => ka T ρ σ H _ _ r h fun d ρ1 v H1 r1 p1 v1 h => ?_⟩
  cases v1 with
  | int n => exact ⟨n, rfl, q _ _ _ _ r1 p1 h⟩
  | _ => exact False.elim h
theorem jr_2 (hm : X.mg "range" = none) (ha : JE X a fa) (hb : JE X b fb) (hg : Gl X "range" := by rfl) (na : starEach [a, b] X.env = (false, eval a X.env) :: starEach [b] X.env := by rfl) (nb : starEach [b] X.env = (false, eval b X.env) :: starEach [] X.env := by rfl) (hpl : (backTo pos (starEach [b] X.env)).any (·.1) = false := by rfl) :
    JR X (.Call (.Name "range" p) [a, b] [] pos) (rg2 fa fb) := by
  obtain ⟨ta, pa, ka⟩ := ha.ex
  obtain ⟨tb, pb, kb⟩ := hb.ex
  refine ⟨_, prg_2 hg hm pa pb na nb hpl, fun T ρ σ H QD Q r h q => ka T ρ σ H _ _ r h fun d ρ1 v H1 r1 p1 v1 h => kb T ρ1 σ H1 _ _ r1 h fun e ρ2 u H2 r2 p2 v2 h => ?_⟩
  cases v1 <;> cases v2 <;> first | exact False.elim h | exact ⟨_, _, rfl, rfl, q _ _ _ _ r2 (p1.trans p2) h⟩
def lRg (f : DR) : DL := fun ρ Q => f ρ fun i j ρ1 => RgD i j ∧ Q (rgD i j) ρ1
def dTRg (f : DR) : DE := fun ρ Q => f ρ fun i j ρ1 => RgD i j ∧ Q (.tuple (rgD i j)) ρ1
theorem jl_rg {f : DR} (hc : X.calm = true) (hm : X.mg "list" = none) (ha : JR X a f) (hg : Gl X "list" := by rfl) (na : starEach [a] X.env = (false, eval a X.env) :: starEach [] X.env := by rfl) : JL X (.Call (.Name "list" p) [a] [] pos) (lRg f) := by
  obtain ⟨ta, pa, ka⟩ := ha.ex
  refine ⟨_, pe_listRg hc hg hm pa na, fun T ρ σ H QD Q r h q => ka T ρ σ H _ _ r h fun i j ρ1 H1 r1 p1 h => ⟨rg_ok h.1, fun l hl => ?_⟩⟩
  exact q _ _ _ _ _ (none_back p1 hl) upd_same (r1.laid hl) (rg_rp i j) (p1.trans (.grow (Ex.new hl))) h.2
theorem je_tupRg {f : DR} (hc : X.calm = true) (hm : X.mg "tuple" = none) (ha : JR X a f) (hg : Gl X "tuple" := by rfl) (na : starEach [a] X.env = (false, eval a X.env) :: starEach [] X.env := by rfl) : JE X (.Call (.Name "tuple" p) [a] [] pos) (dTRg f) := by
  obtain ⟨ta, pa, ka⟩ := ha.ex
  refine ⟨_, pe_tupRg hc hg hm pa na, fun T ρ σ H QD Q r h q => ka T ρ σ H _ _ r h fun i j ρ1 H1 r1 p1 h => ⟨rg_ok h.1, fun l hl => ?_⟩⟩
  exact q _ _ _ _ (r1.grow (Ex.new hl)) (p1.trans (.grow (Ex.new hl))) (rp_newT (fun a => r1.hdDom) hl (rg_rp i j)) h.2
end
end Dn
set_option Elab.async false
set_option linter.all false
set_option maxRecDepth 100000
set_option autoImplicit false
set_option maxHeartbeats 4000000
namespace Dn
open PySem L2 Evl
/-! ### targets -/
structure JG (X : Cx) (tg : Expr) (vs : List Nat) (g : DG) : Prop where
  ex : ∃ t, PG X tg t ∧ ∀ (T : Addr → Prop) (ρ : Env) (σ : L2.St) (H : Hp) (v : V) (d : D) (QD : Env → Prop) (Q : L2.St → Hp → Prop), RS X.K T ρ σ H → Rp X.K (hide (Hd T ρ σ) H) v d → g d ρ QD →
    (∀ ρ' σ', RS X.K T ρ' σ' H → Po ρ σ H ρ' σ' H → wipe σ' vs = wipe σ vs → QD ρ' → Q σ' H) → t v σ H Q
structure JGs (X : Cx) (tgs : List Expr) (vs : List Nat) (g : List D → Env → (Env → Prop) → Prop) : Prop where
  ex : ∃ t, PGs X tgs t ∧ ∀ (T : Addr → Prop) (ρ : Env) (σ : L2.St) (H : Hp) (us : List V) (ds : List D) (QD : Env → Prop) (Q : L2.St → Hp → Prop), RS X.K T ρ σ H → RpAll X.K (hide (Hd T ρ σ) H) us ds → g ds ρ QD →
    (∀ ρ' σ', RS X.K T ρ' σ' H → Po ρ σ H ρ' σ' H → wipe σ' vs = wipe σ vs → QD ρ' → Q σ' H) → t us σ H Q
theorem wipe_set (σ : L2.St) (v : Option V) : ∀ (vs : List Nat) (i : Nat), i ∈ vs → wipe (σ.set i v) vs = wipe σ vs
  | [], i, h => by cases h
  | j :: vs, i, h => by
    show (wipe (σ.set i v) vs).set j none = (wipe σ vs).set j none
    by_cases e : i ∈ vs
    · rw [wipe_set σ v vs i e]
    · have : i = j := by rcases List.mem_cons.mp h with h | h; exact h; exact absurd h e
      subst this
      have aux : ∀ (ws : List Nat), i ∉ ws → wipe (σ.set i v) ws = (wipe σ ws).set i v := by
        intro ws
        induction ws with
        | nil => intro _; rfl
        | cons k ws ih =>
          intro hn
          show (wipe (σ.set i v) ws).set k none = ((wipe σ ws).set k none).set i v
          rw [ih (fun z => hn (List.mem_cons_of_mem _ z)), List.set_comm _ _ (fun z => hn (by rw [z]; exact List.mem_cons_self))]
      rw [aux vs e, List.set_set]
section
variable {X : Cx} {a b c e : Expr} {fa fb fc : DE} {pos p : Pos} {es : List Expr} {x : Str}
def gNm (i : Nat) : DG := fun d ρ Q => Q (ρ.set i (some (.im d)))
theorem jg_name {i : Nat} {vs : List Nat} (hN : X.N.Nodup) (hi : X.N[i]? = some x) (hx : Loc X.env.scope x) (hv : i ∈ vs := by decide) (hf : X.fn x = true ∨ X.env.scope.names.lookup x = some .local := by first | exact .inl rfl | exact .inr rfl | assumption) : JG X (.Name x pos) vs (gNm i) :=
  ⟨gName i, pg_name hN hi hx hf, fun T ρ σ H v d QD Q r rv h q => q _ _ (r.setIm rv) .setIm (wipe_set σ _ vs i hv) h⟩
def gsNil : List D → Env → (Env → Prop) → Prop := fun ds ρ Q => ds = [] ∧ Q ρ
def gsCons (g : DG) (gs : List D → Env → (Env → Prop) → Prop) : List D → Env → (Env → Prop) → Prop := fun ds ρ Q => match ds with
  | d :: ds => g d ρ fun ρ1 => gs ds ρ1 Q
  | [] => False
theorem jgs_nil {vs : List Nat} : JGs X [] vs gsNil := ⟨gNil, pgs_nil, fun T ρ σ H us ds QD Q r rv h q => by
  obtain ⟨rfl, h⟩ := h
  cases rv
  exact ⟨rfl, q _ _ r .refl rfl h⟩⟩
theorem jgs_cons {g : DG} {gs : List D → Env → (Env → Prop) → Prop} {vs : List Nat} (h1 : JG X e vs g) (h2 : JGs X es vs gs) (hs : (assignEach (e :: es) X.env).map (·.2) = assign e X.env :: (assignEach es X.env).map (·.2) := by rfl) : JGs X (e :: es) vs (gsCons g gs) := by
  obtain ⟨t1, p1, k1⟩ := h1.ex
  obtain ⟨t2, p2, k2⟩ := h2.ex
  refine ⟨_, pgs_cons p1 p2 hs, fun T ρ σ H us ds QD Q r rv h q => ?_⟩
  cases rv with
  | nil => exact False.elim h
  | cons rv rr => exact ⟨_, _, rfl, k1 T ρ σ H _ _ _ _ r rv h fun ρ1 σ1 r1 q1 w1 h => k2 T ρ1 σ1 H _ _ _ _ r1 (rr.mono q1.fz) h fun ρ2 σ2 r2 q2 w2 h => q _ _ r2 (q1.trans q2) (w2.trans w1) h⟩
def gTp (n : Nat) (gs : List D → Env → (Env → Prop) → Prop) : DG := fun d ρ Q => match d with
  | .tuple ds => ds.length = n ∧ gs ds ρ Q
  | _ => False
theorem jg_tup {k n : Nat} {gs : List D → Env → (Env → Prop) → Prop} {vs : List Nat} (hc : X.calm = true) (h : JGs X es vs gs) (hn : (assignEach es X.env).length = n := by rfl) (hst : (assignEach es X.env).findIdx? (·.1) = none := by rfl) : JG X (.Tuple es k pos) vs (gTp n gs) := by
  obtain ⟨t, pt, kt⟩ := h.ex
  refine ⟨_, pg_tup hc pt hn hst, fun T ρ σ H v d QD Q r rv h q => ?_⟩
  cases rv with
  | tup hp rr => exact ⟨_, _, rfl, sqt_of hp, by rw [rr.length]; exact h.1, kt T ρ σ H _ _ _ _ r rr h.2 q⟩
  | _ => exact False.elim h

/-! ### statements -/
def sNx : DS := fun E ρ => E.nx ρ
def sSeq (f g : DS) : DS := fun E ρ => f { E with nx := g E } ρ
theorem js_nil : JSs X [] sNx := ⟨tNext, pss_nil, fun T ρ σ H E D r h k => k.nx _ _ _ r .refl h⟩
theorem js_cons {st : Stmt} {sts : List Stmt} {f g : DS} (h1 : JS X st f) (h2 : JSs X sts g) : JSs X (st :: sts) (sSeq f g) := by
  obtain ⟨t1, p1, k1⟩ := h1.ex
  obtain ⟨t2, p2, k2⟩ := h2.ex
  refine ⟨_, pss_cons p1 p2, fun T ρ σ H E D r h k => ?_⟩
  exact k1 T ρ σ H _ _ r h ⟨fun ρ1 σ1 H1 r1 q1 h1 => k2 T ρ1 σ1 H1 E D r1 h1 (k.step q1), k.rt, k.bk, k.ct⟩
theorem js_one {st : Stmt} {f : DS} (h1 : JS X st f) : JSs X [st] f := by
  obtain ⟨t1, p1, k1⟩ := h1.ex
  refine ⟨_, pss_cons p1 pss_nil, fun T ρ σ H E D r h k => ?_⟩
  exact k1 T ρ σ H E _ r h ⟨k.nx, k.rt, k.bk, k.ct⟩
theorem js_pass : JS X (.Pass pos) sNx := ⟨tNext, ps_pass, fun T ρ σ H E D r h k => k.nx _ _ _ r .refl h⟩
def sBk : DS := fun E ρ => E.bk ρ
def sCt : DS := fun E ρ => E.ct ρ
theorem js_break : JS X (.Break pos) sBk := ⟨_, ps_break, fun T ρ σ H E D r h k => k.bk _ _ _ r .refl h⟩
theorem js_continue : JS X (.Continue pos) sCt := ⟨_, ps_continue, fun T ρ σ H E D r h k => k.ct _ _ _ r .refl h⟩
def sNever : DS := fun _ _ => False
theorem js_never {st : Stmt} : JS X st sNever := ⟨_, ps_never, fun T ρ σ H E D r h k => h.elim⟩
theorem jss_never {st : List Stmt} : JSs X st sNever := ⟨_, pss_never, fun T ρ σ H E D r h k => h.elim⟩
def sEx (f : DE) : DS := fun E ρ => f ρ fun _ ρ1 => E.nx ρ1
theorem js_expr (ha : JE X e fa) (hs : swapsWith e none pos.line X.env = pure false := by rfl) : JS X (.Expr e pos) (sEx fa) := by
  obtain ⟨t, pt, kt⟩ := ha.ex
  exact ⟨_, ps_expr pt hs, fun T ρ σ H E D r h k => kt T ρ σ H _ _ r h fun d ρ1 v H1 r1 p1 v1 h => k.nx _ _ _ r1 p1 h⟩
def sRet (f : DE) : DS := fun E ρ => f ρ E.rt
theorem js_ret (ha : JE X e fa) : JS X (.Return (some e) pos) (sRet fa) := by
  obtain ⟨t, pt, kt⟩ := ha.ex
  exact ⟨_, ps_ret pt, fun T ρ σ H E D r h k => kt T ρ σ H _ _ r h fun d ρ1 v H1 r1 p1 v1 h => k.rt _ _ _ _ _ r1 p1 v1 h⟩
def sRetN : DS := fun E ρ => E.rt .none ρ
theorem js_retN : JS X (.Return none pos) sRetN := ⟨_, ps_retN, fun T ρ σ H E D r h k => k.rt _ _ _ _ _ r .refl .non h⟩
/-- return x, x an owned list -/
def sRetO (i : Nat) : DS := fun E ρ => match ρ[i]? with
  | some (some (.ow (.lst ds))) => E.rt (.list ds) (ρ.set i (some (.im (.list ds))))
  | _ => False
theorem js_retO {i : Nat} {px : Pos} (hN : X.N[i]? = some x) (hv : Vis X.env.scope x) (hd : (x == ("__debug__" : Str)) = false := by decide) (hcd : (x == ("__classdict__" : Str)) = false := by decide) : JS X (.Return (some (.Name x px)) pos) (sRetO i) := by
  refine ⟨_, ps_ret (pe_var hN hv hd hcd), fun T ρ σ H E D r h k => ?_⟩
  unfold sRetO at h
  split at h
  · rename_i ds e1
    have rf := r.freeze e1
    obtain ⟨v, hv, rv⟩ := rf.im i (.list ds) (List.getElem?_set_self (List.getElem?_eq_some_iff.mp e1).1)
    exact ⟨v, hv, k.rt _ _ _ _ _ rf .freeze rv h⟩
  · exact False.elim h
def sIf (c : DT) (f g : DS) : DS := fun E ρ => c ρ fun b ρ1 => if b = true then f E ρ1 else g E ρ1
theorem js_if {g : DT} {sa sb : List Stmt} {f1 f2 : DS} (hc : JT X c g) (h1 : JSs X sa f1) (h2 : JSs X sb f2) : JS X (.If c sa sb pos) (sIf g f1 f2) := by
  obtain ⟨tc, pc, kc⟩ := hc.ex
  obtain ⟨t1, p1, k1⟩ := h1.ex
  obtain ⟨t2, p2, k2⟩ := h2.ex
  refine ⟨_, ps_if pc p1 p2, fun T ρ σ H E D r h k => kc T ρ σ H _ _ r h fun b ρ1 H1 r1 q1 h => ?_⟩
  cases b with
  | true => exact k1 T ρ1 σ H1 E D r1 h (k.step q1)
  | false => exact k2 T ρ1 σ H1 E D r1 h (k.step q1)
/-- a name is stored -/
def sSet (i : Nat) (f : DX) : DS := fun E ρ => f ρ fun sv ρ1 => E.nx (ρ1.set i (some sv))
theorem fits_set {K : PySem.W.Frag} {T : Addr → Prop} {ρ ρ0 : Env} {σ : L2.St} {H0 H : Hp} {v : V} {sv : SV} {i : Nat} (r0 : RS K T ρ0 σ H0) (q : Po ρ0 σ H0 ρ σ H) (h : Fits K T ρ σ H0 H v sv) : RS K T (ρ.set i (some sv)) (σ.set i (some v)) H ∧ Po ρ0 σ H0 (ρ.set i (some sv)) (σ.set i (some v)) H := by
  cases sv with
  | im d => exact ⟨h.1.setIm h.2, q.trans .setIm⟩
  | ow m =>
    obtain ⟨p, o, rfl, hn, ho, r, rr, np⟩ := h
    exact ⟨r.setOw ho rr (fun t => r0.dom p t hn) fun _ _ z => (np _ _ z).elim, q.setOw hn⟩
theorem js_set {i : Nat} {f : DX} {px : Pos} (he : JX X e f) (hN : X.N.Nodup) (hi : X.N[i]? = some x) (hx : Loc X.env.scope x) (hs : swapsWith e (some (.Name x px)) pos.line X.env = pure false := by rfl) (hf : X.fn x = true ∨ X.env.scope.names.lookup x = some .local := by first | exact .inl rfl | exact .inr rfl | assumption) : JS X (.Assign [.Name x px] e pos) (sSet i f) := by
  obtain ⟨t, pt, kt⟩ := he.ex
  refine ⟨_, ps_set hN hi hx pt hs hf, fun T ρ σ H E D r h k => kt T ρ σ H _ _ r h fun sv ρ1 v H1 fi q1 h => ?_⟩
  obtain ⟨r2, q2⟩ := fits_set (i := i) r q1 fi
  exact k.nx _ _ _ r2 q2 h
/-- any target -/
def sAsg (f : DE) (g : DG) : DS := fun E ρ => f ρ fun d ρ1 => g d ρ1 E.nx
theorem js_asg {tg : Expr} {g : DG} {vs : List Nat} (ha : JE X e fa) (hg : JG X tg vs g) (hs : swapsWithSole [tg] e pos.line X.env = pure false := by rfl) (hw : swappedStores [tg] e X.env = pure none := by rfl) (h1 : (assignEach [tg] X.env).map (·.2) = [assign tg X.env] := by rfl) : JS X (.Assign [tg] e pos) (sAsg fa g) := by
  obtain ⟨t, pt, kt⟩ := ha.ex
  obtain ⟨t2, p2, k2⟩ := hg.ex
  refine ⟨_, ps_asg pt p2 hs hw h1, fun T ρ σ H E D r h k => kt T ρ σ H _ _ r h fun d ρ1 v H1 r1 q1 v1 h => k2 T ρ1 σ H1 _ _ _ _ r1 v1 h fun ρ2 σ2 r2 q2 _ h => k.nx _ _ _ r2 (q1.trans q2) h⟩
/-- a, b = e1, e2 with plain local names -/
def sPar (i j : Nat) (f g : DX) : DS := fun E ρ => f ρ fun s1 ρ1 => g ρ1 fun s2 ρ2 => E.nx ((ρ2.set i (some s1)).set j (some s2))
end
end Dn
set_option Elab.async false
set_option linter.all false
set_option maxRecDepth 100000
set_option autoImplicit false
set_option maxHeartbeats 4000000
namespace Dn
open PySem L2 Evl
section
variable {X : Cx} {a b c e : Expr} {fa fb fc : DE} {pos p : Pos} {es : List Expr} {x y : Str}
theorem setc {α : Type} {l : List α} {i j : Nat} {u v : α} (h : i ≠ j) : (l.set i u).set j v = (l.set j v).set i u := List.set_comm u v h
theorem Fits.grow {K : PySem.W.Frag} {T : Addr → Prop} {ρ : Env} {σ : L2.St} {H0 H H' : Hp} {v : V} {sv : SV} (h : Fits K T ρ σ H0 H v sv) (e : Ex H H') : Fits K T ρ σ H0 H' v sv := by
  cases sv with
  | im d => exact ⟨h.1.grow e, h.2.mono (hide_grow e)⟩
  | ow m => obtain ⟨q, o, h1, h2, h3, h4, h5, h6⟩ := h; exact ⟨q, o, h1, h2, e _ _ h3, h4.grow e, h5.mono (hide_grow e), h6⟩
/-- the temps under which the next part is reckoned -/
def SV.temps (v : V) (sv : SV) (T : Addr → Prop) : Addr → Prop := match sv, v with
  | .ow _, .ref p => plus T p
  | _, _ => T
theorem Fits.rs {K : PySem.W.Frag} {T : Addr → Prop} {ρ : Env} {σ : L2.St} {H0 H : Hp} {v : V} {sv : SV} (h : Fits K T ρ σ H0 H v sv) : RS K (sv.temps v T) ρ σ H := by
  cases sv with
  | im d => exact h.1
  | ow m => obtain ⟨q, o, rfl, h2, h3, h4, h5, _⟩ := h; exact h4
theorem par_fin {K : PySem.W.Frag} {T : Addr → Prop} {ρ ρ1 ρ2 : Env} {σ : L2.St} {H H1 H2 : Hp} {v w : V} {s1 s2 : SV} {i j : Nat} (hij : i ≠ j) (r : RS K T ρ σ H) (f1 : Fits K T ρ1 σ H H1 v s1) (q1 : Po ρ σ H ρ1 σ H1)
    (f2 : Fits K (s1.temps v T) ρ2 σ H1 H2 w s2) (q2 : Po ρ1 σ H1 ρ2 σ H2) : RS K T ((ρ2.set i (some s1)).set j (some s2)) ((σ.set i (some v)).set j (some w)) H2 ∧ Po ρ σ H ((ρ2.set i (some s1)).set j (some s2)) ((σ.set i (some v)).set j (some w)) H2 := by
  rw [setc hij, setc hij]
  obtain ⟨r3, q3⟩ := fits_set (i := j) f1.rs q2 f2
  cases s1 with
  | im d => exact ⟨r3.setIm (f1.2.mono q3.fz), (q1.trans q3).trans .setIm⟩
  | ow m =>
    obtain ⟨p, o, rfl, hn, ho, r4, rr, np⟩ := f1
    have no : ¬ Own ρ1 σ p := r4.dis p (.inl rfl)
    exact ⟨r3.setOw (q3.keep p o no ho) (rr.mono q3.fz) (fun t => r.dom p t hn) fun _ _ z => (np _ _ z).elim, (q1.trans q3).setOw hn⟩
theorem js_par {i j : Nat} {f g : DX} {px py pt : Pos} {kt k2 pt2} (hc : X.calm = true) (hN : X.N.Nodup) (hi : X.N[i]? = some x) (hj : X.N[j]? = some y) (hij : i ≠ j) (hx : X.env.scope.names.lookup x = some .local) (hy : X.env.scope.names.lookup y = some .local)
    (ha : JX X a f) (hb : JX X b g) (hw : swappedStores [.Tuple [.Name x px, .Name y py] kt pt] (.Tuple [a, b] k2 pt2) X.env = pure (some [x, y])) (hs : swapsWithSole [.Tuple [.Name x px, .Name y py] kt pt] (.Tuple [a, b] k2 pt2) pos.line X.env = pure false := by rfl)
    (h1 : starEach [a, b] X.env = (false, eval a X.env) :: starEach [b] X.env := by rfl) (h2 : starEach [b] X.env = (false, eval b X.env) :: starEach [] X.env := by rfl) :
    JS X (.Assign [.Tuple [.Name x px, .Name y py] kt pt] (.Tuple [a, b] k2 pt2) pos) (sPar i j f g) := by
  obtain ⟨t1, p1, k1⟩ := ha.ex
  obtain ⟨t2, p2, k2⟩ := hb.ex
  refine ⟨_, ps_par hc hN hi hj hij hx hy (pa_cons p1 (pa_cons p2 pa_nil h2) h1) hw hs, fun T ρ σ H E D r h k => ?_⟩
  refine k1 T ρ σ H _ _ r h fun s1 ρ1 v H1 f1 q1 h => k2 (s1.temps v T) ρ1 σ H1 _ _ f1.rs h fun s2 ρ2 w H2 f2 q2 h => ⟨v, w, rfl, ?_⟩
  obtain ⟨r3, q3⟩ := par_fin hij r f1 q1 f2 q2
  exact k.nx _ _ _ r3 q3 h
/-- the same where the names are cells, too: the pair is made -/
theorem js_parT {i j : Nat} {f g : DX} {px py pt : Pos} {kt k2 pt2} (hc : X.calm = true) (hN : X.N.Nodup) (hi : X.N[i]? = some x) (hj : X.N[j]? = some y) (hij : i ≠ j) (hx : Loc X.env.scope x) (hy : Loc X.env.scope y)
    (ha : JX X a f) (hb : JX X b g) (hfx : X.fn x = true ∨ X.env.scope.names.lookup x = some .local := by first | exact .inl rfl | exact .inr rfl | assumption) (hfy : X.fn y = true ∨ X.env.scope.names.lookup y = some .local := by first | exact .inl rfl | exact .inr rfl | assumption)
    (hw : swappedStores [.Tuple [.Name x px, .Name y py] kt pt] (.Tuple [a, b] k2 pt2) X.env = pure none := by rfl) (hs : swapsWithSole [.Tuple [.Name x px, .Name y py] kt pt] (.Tuple [a, b] k2 pt2) pos.line X.env = pure false := by rfl)
    (h1 : starEach [a, b] X.env = (false, eval a X.env) :: starEach [b] X.env := by rfl) (h2 : starEach [b] X.env = (false, eval b X.env) :: starEach [] X.env := by rfl)
    (h3 : (assignEach [.Tuple [.Name x px, .Name y py] kt pt] X.env).map (·.2) = [assign (.Tuple [.Name x px, .Name y py] kt pt) X.env] := by rfl) (h4 : (assignEach [.Name x px, .Name y py] X.env).length = 2 := by rfl) (h5 : (assignEach [.Name x px, .Name y py] X.env).findIdx? (·.1) = none := by rfl)
    (h6 : (assignEach [.Name x px, .Name y py] X.env).map (·.2) = assign (.Name x px) X.env :: (assignEach [.Name y py] X.env).map (·.2) := by rfl) (h7 : (assignEach [.Name y py] X.env).map (·.2) = assign (.Name y py) X.env :: (assignEach [] X.env).map (·.2) := by rfl) :
    JS X (.Assign [.Tuple [.Name x px, .Name y py] kt pt] (.Tuple [a, b] k2 pt2) pos) (sPar i j f g) := by
  obtain ⟨t1, p1, k1⟩ := ha.ex
  obtain ⟨t2, p2, k2⟩ := hb.ex
  refine ⟨_, ps_asg (pe_tup (pa_cons p1 (pa_cons p2 pa_nil h2) h1)) (pg_tup hc (pgs_cons (pg_name hN hi hx hfx) (pgs_cons (pg_name hN hj hy hfy) pgs_nil h7) h6) h4 h5) hs hw h3, fun T ρ σ H E D r h k => ?_⟩
  refine k1 T ρ σ H _ _ r h fun s1 ρ1 v H1 f1 q1 h => k2 (s1.temps v T) ρ1 σ H1 _ _ f1.rs h fun s2 ρ2 w H2 f2 q2 h => ⟨by show 2 ≤ sizeLine; decide, fun l hl => ?_⟩
  obtain ⟨r3, q3⟩ := par_fin hij r f1 q1 (f2.grow (Ex.new hl)) (q2.trans (.grow (Ex.new hl)))
  exact ⟨l, [v, w], rfl, .inl (.inl upd_same), rfl, _, _, rfl, _, _, rfl, rfl, k.nx _ _ _ r3 q3 h⟩

/-! ### what is walked -/
structure ItOk (K : PySem.W.Frag) (J : It) (G : Hp) (ds : List D) : Prop where
  stop : ∀ H, Ex G H → J.stop ds.length H
  step : ∀ (i : Nat) (d : D) (H : Hp), ds[i]? = some d → Ex G H → J.go i H ∧ ∀ x H', J.yld i H x H' → Ex H H' ∧ ∀ O : Addr → Prop, (∀ a, O a → H a ≠ none) → Ex G (hide O H) → Rp K (hide O H') x d
structure JI (X : Cx) (tg iter : Expr) (f : DL) : Prop where
  ex : ∃ wi, PI X tg iter wi ∧ ∀ (T : Addr → Prop) (ρ : Env) (σ : L2.St) (H : Hp) (QD : List D → Env → Prop) (R : It → Hp → Prop), RS X.K T ρ σ H → f ρ QD →
    (∀ ds ρ' J H', RS X.K T ρ' σ H' → Po ρ σ H ρ' σ H' → ItOk X.K J (hide (Hd T ρ' σ) H') ds → QD ds ρ' → R J H') → wi σ H R
theorem it_list {K : PySem.W.Frag} {G : Hp} {a : Addr} {xs : List V} {ds : List D} (h : SqL K G a xs) (r : RpAll K G xs ds) : ItOk K (Itl K a) G ds :=
  ⟨fun H e => ⟨xs, ex_l e h, by rw [r.length]; exact Nat.le_refl _⟩, fun i d H hd e => by
    obtain ⟨v, h1, h2⟩ := r.get hd
    refine ⟨⟨xs, v, ex_l e h, h1⟩, fun x H' y => ?_⟩
    obtain ⟨rfl, y⟩ := y
    have := y xs (ex_l e h)
    rw [h1] at this; cases this
    exact ⟨Ex.refl _, fun O _ eo => h2.mono eo⟩⟩
theorem it_tup {K : PySem.W.Frag} {G : Hp} {a : Addr} {xs : List V} {ds : List D} (h : SqT K G a xs) (r : RpAll K G xs ds) : ItOk K (Itt K a) G ds :=
  ⟨fun H e => ⟨xs, ex_t e h, by rw [r.length]; exact Nat.le_refl _⟩, fun i d H hd e => by
    obtain ⟨v, h1, h2⟩ := r.get hd
    refine ⟨⟨xs, v, ex_t e h, h1⟩, fun x H' y => ?_⟩
    obtain ⟨rfl, y⟩ := y
    have := y xs (ex_t e h)
    rw [h1] at this; cases this
    exact ⟨Ex.refl _, fun O _ eo => h2.mono eo⟩⟩
theorem it_range {K : PySem.W.Frag} {G : Hp} (i j : Int) : ItOk K (Itr i (j - i).toNat) G (rgD i j) :=
  ⟨fun H e => by show (j - i).toNat ≤ (rgD i j).length; unfold rgD; simp, fun k d H hd e => by
    unfold rgD at hd
    rw [List.getElem?_map] at hd
    obtain ⟨m, hm, rfl⟩ := Option.map_eq_some_iff.mp hd
    obtain ⟨hk, hm⟩ := List.getElem?_eq_some_iff.mp hm
    simp at hk hm
    subst hm
    refine ⟨by show k < (j - i).toNat; omega, fun x H' y => ?_⟩
    obtain ⟨rfl, rfl⟩ := y
    exact ⟨Ex.refl _, fun O _ eo => .int _⟩⟩
variable {tg : Expr}
/-- over a list, told by its kind -/
def iLs (f : DE) : DL := fun ρ Q => f ρ fun d ρ1 => match d with
  | .list ds => Q ds ρ1
  | _ => False
def iTp (f : DE) : DL := fun ρ Q => f ρ fun d ρ1 => match d with
  | .tuple ds => Q ds ρ1
  | _ => False
theorem ji_list (ha : JE X a fa) : JI X tg a (iLs fa) := by
  obtain ⟨t, pt, kt⟩ := ha.ex
  refine ⟨_, pi_list pt, fun T ρ σ H QD R r h q => kt T ρ σ H _ _ r h fun d ρ1 v H1 r1 p1 v1 h => ?_⟩
  cases v1 with
  | lst hp rr => exact ⟨_, rfl, ⟨_, .inl (.inl (at_of hp))⟩, q _ _ _ _ r1 p1 (it_list (.inl (.inl hp)) rr) h⟩
  | _ => exact False.elim h
theorem ji_tup (ha : JE X a fa) : JI X tg a (iTp fa) := by
  obtain ⟨t, pt, kt⟩ := ha.ex
  refine ⟨_, pi_tup pt, fun T ρ σ H QD R r h q => kt T ρ σ H _ _ r h fun d ρ1 v H1 r1 p1 v1 h => ?_⟩
  cases v1 with
  | tup hp rr => exact ⟨_, rfl, ⟨_, sqt_of hp⟩, q _ _ _ _ r1 p1 (it_tup (lt_of hp) rr) h⟩
  | _ => exact False.elim h
/-- over an owned list: from there on it stands as it is -/
def iOw (i : Nat) : DL := fun ρ Q => match ρ[i]? with
  | some (some (.ow (.lst ds))) => Q ds (ρ.set i (some (.im (.list ds))))
  | _ => False
theorem ji_own {i : Nat} {px : Pos} (hN : X.N[i]? = some x) (hv : Vis X.env.scope x) (hd : (x == ("__debug__" : Str)) = false := by decide) (hcd : (x == ("__classdict__" : Str)) = false := by decide) : JI X tg (.Name x px) (iOw i) := by
  refine ⟨_, pi_list (pe_var hN hv hd hcd), fun T ρ σ H QD R r h q => ?_⟩
  unfold iOw at h
  split at h
  · rename_i ds e1
    have rf := r.freeze e1
    obtain ⟨v, hv, rv⟩ := rf.im i (.list ds) (List.getElem?_set_self (List.getElem?_eq_some_iff.mp e1).1)
    cases rv with
    | lst hp rr => exact ⟨_, hv, _, rfl, ⟨_, .inl (.inl (at_of hp))⟩, q _ _ _ _ rf .freeze (it_list (.inl (.inl hp)) rr) h⟩
  · exact False.elim h
def iR1 (f : DE) : DL := fun ρ Q => f ρ fun d ρ1 => match d with
  | .int n => RgD 0 n ∧ Q (rgD 0 n) ρ1
  | _ => False
def iR2 (f g : DE) : DL := fun ρ Q => f ρ fun d ρ1 => g ρ1 fun e ρ2 => match d, e with
  | .int i, .int j => RgD i j ∧ Q (rgD i j) ρ2
  | _, _ => False
theorem ji_r1 (hm : X.mg "range" = none) (ha : JE X a fa) (hg : Gl X "range" := by rfl) (hs : starEach [a] X.env = [(false, eval a X.env)] := by rfl) : JI X tg (.Call (.Name "range" p) [a] [] pos) (iR1 fa) := by
  obtain ⟨t, pt, kt⟩ := ha.ex
  refine ⟨_, pi_range1 hg hm (pa_cons pt pa_nil hs) hs, fun T ρ σ H QD R r h q => kt T ρ σ H _ _ r h fun d ρ1 v H1 r1 p1 v1 h => ?_⟩
  cases v1 with
  | int n =>
    obtain ⟨⟨_, _, h1, h2⟩, h⟩ := h
    have z := q _ _ _ _ r1 p1 (it_range (K := X.K) 0 n) h
    rw [show (n - 0).toNat = n.toNat from by congr 1; omega] at z
    exact ⟨n, rfl, by omega, by omega, z⟩
  | _ => exact False.elim h
theorem ji_r2 (hm : X.mg "range" = none) (ha : JE X a fa) (hb : JE X b fb) (hg : Gl X "range" := by rfl) (hs : starEach [a, b] X.env = [(false, eval a X.env), (false, eval b X.env)] := by rfl) (hs2 : starEach [b] X.env = [(false, eval b X.env)] := by rfl) : JI X tg (.Call (.Name "range" p) [a, b] [] pos) (iR2 fa fb) := by
  obtain ⟨t, pt, kt⟩ := ha.ex
  obtain ⟨t2, pt2, kt2⟩ := hb.ex
  refine ⟨_, pi_range2 hg hm (pa_cons pt (pa_cons pt2 pa_nil hs2) (by rw [hs, hs2])) hs hs2, fun T ρ σ H QD R r h q => kt T ρ σ H _ _ r h fun d ρ1 v H1 r1 p1 v1 h => kt2 T ρ1 σ H1 _ _ r1 h fun d ρ2 w H2 r2 p2 v2 h => ?_⟩
  cases v1 <;> cases v2 <;> first | exact False.elim h | skip
  obtain ⟨⟨h1, h2, h3, h4⟩, h⟩ := h
  exact ⟨_, _, rfl, ⟨by omega, by omega, by omega, by omega⟩, q _ _ _ _ r2 (p1.trans p2) (it_range (K := X.K) _ _) h⟩
/-- enumerate of a list -/
def enD (ds : List D) : List D := (List.range ds.length).zipWith (fun k d => .tuple [.int (k : Nat), d]) ds
theorem enD_get {ds : List D} {i : Nat} {d : D} (h : (enD ds)[i]? = some d) : ∃ e, ds[i]? = some e ∧ d = .tuple [.int (i : Nat), e] := by
  unfold enD at h
  rw [List.getElem?_zipWith] at h
  by_cases hi : i < ds.length
  · rw [List.getElem?_range hi, List.getElem?_eq_getElem hi] at h
    simp at h
    exact ⟨_, List.getElem?_eq_getElem hi, h.symm⟩
  · rw [List.getElem?_eq_none_iff.mpr (show ds.length ≤ i by omega)] at h
    cases hr : (List.range ds.length)[i]? <;> rw [hr] at h <;> cases h
theorem enD_len {ds : List D} : (enD ds).length = ds.length := by unfold enD; simp
def iEnL (f : DE) : DL := fun ρ Q => f ρ fun d ρ1 => match d with
  | .list ds => Q (enD ds) ρ1
  | _ => False
theorem ji_enumL {elts : List Expr} {kk : Nat} {tpos : Pos} (hm : X.mg "enumerate" = none) (ha : JE X a fa) (hg : Gl X "enumerate" := by rfl) (hs : starEach [a] X.env = [(false, eval a X.env)] := by rfl) : JI X (.Tuple elts kk tpos) (.Call (.Name "enumerate" p) [a] [] pos) (iEnL fa) := by
  obtain ⟨t, pt, kt⟩ := ha.ex
  refine ⟨_, pi_enum hg hm (pa_cons pt pa_nil hs) hs, fun T ρ σ H QD R r h q => kt T ρ σ H _ _ r h fun d ρ1 v H1 r1 p1 v1 h => ?_⟩
  cases v1 with
  | @lst a xs ds hp rr =>
    refine ⟨_, _, rfl, .inl (.inl (at_of hp)), q _ _ _ _ r1 p1 ⟨fun H e => ⟨xs, .inl (.inl (e _ _ hp)), by rw [enD_len, rr.length]; exact Nat.le_refl _⟩, fun i d H hd e => ?_⟩ h⟩
    obtain ⟨g, hg, rfl⟩ := enD_get hd
    obtain ⟨u, hu, ru⟩ := rr.get hg
    refine ⟨⟨xs, u, .inl (.inl (e _ _ hp)), hu⟩, fun x H' y => ?_⟩
    obtain ⟨l, z, rfl, hl, rfl, y⟩ := y
    have := y xs (.inl (.inl (e _ _ hp)))
    rw [hu] at this; cases this
    exact ⟨Ex.new hl, fun O hO eo => rp_newT hO hl (.cons (.int _) (.cons (ru.mono eo) .nil))⟩
  | _ => exact False.elim h
end
end Dn
set_option Elab.async false
set_option linter.all false
set_option maxRecDepth 100000
set_option autoImplicit false
set_option maxHeartbeats 4000000
namespace Dn
open PySem L2 Evl
/-! ### loops -/
def wpFor (g : DG) (body : DS) (E : DEnds) : List D → Env → Prop
  | [], ρ => E.nx ρ
  | d :: ds, ρ => g d ρ fun ρ1 => body { nx := fun ρ2 => wpFor g body E ds ρ2, ct := fun ρ2 => wpFor g body E ds ρ2, bk := E.nx, rt := E.rt } ρ1
def sFor (fi : DL) (g : DG) (body : DS) : DS := fun E ρ => fi ρ fun ds ρ1 => wpFor g body E ds ρ1
def wpWh (c : DT) (body : DS) (E : DEnds) : Nat → Env → Prop
  | 0, _ => False
  | n + 1, ρ => c ρ fun b ρ1 => if b = true then body { nx := wpWh c body E n, ct := wpWh c body E n, bk := E.nx, rt := E.rt } ρ1 else E.nx ρ1
def sWh (c : DT) (body : DS) : DS := fun E ρ => ∃ n, wpWh c body E n ρ
section
variable {X : Cx} {a b c e : Expr} {fa fb fc : DE} {pos p : Pos} {es : List Expr} {x y : Str}
theorem js_for {tg iter : Expr} {body : List Stmt} {fi : DL} {g : DG} {vs : List Nat} {f : DS} (hc : X.calm = true) (hi : JI X tg iter fi) (hg : JG X tg vs g) (hb : JSs X body f) (hp : PassesOwn (model X.prog X.w) X.A X.env X.xe := by exact PassesOwn.never)
    (hs : ∀ x, foldedSetIterable iter X.env x = pure x := by intro _; rfl) : JS X (.For tg iter body [] pos) (sFor fi g f) := by
  obtain ⟨wi, pi, ki⟩ := hi.ex
  obtain ⟨tg', pg, kg⟩ := hg.ex
  obtain ⟨tb, pb, kb⟩ := hb.ex
  refine ⟨_, ps_for hp hc pi pg pb hs, fun T ρ σ H E D r h k => ki T ρ σ H _ _ r h fun ds ρ1 J H1 r1 p1 it h => ?_⟩
  refine ⟨fun i m σ' H' => i ≤ ds.length ∧ m = ds.length - i ∧ ∃ ρ', RS X.K T ρ' σ' H' ∧ Po ρ1 σ H1 ρ' σ' H' ∧ wpFor g f E (ds.drop i) ρ', ⟨ds.length, Nat.zero_le _, rfl, ρ1, r1, .refl, h⟩, ?_⟩
  rintro i m σ' H' ⟨hi, rfl, ρ', r', p', h⟩
  have eG : Ex (hide (Hd T ρ1 σ) H1) H' := (p'.fz (T := T)).trans hide_ex
  by_cases hl : i < ds.length
  · rw [List.drop_eq_getElem_cons hl] at h
    obtain ⟨go, st⟩ := it.step i ds[i] H' (List.getElem?_eq_getElem hl) eG
    refine .inr ⟨go, fun σ2 H2 => ∃ ρ2, RS X.K T ρ2 σ2 H2 ∧ Po ρ1 σ H1 ρ2 σ2 H2 ∧ wpFor g f E (ds.drop (i + 1)) ρ2, fun σ2 H2 ⟨ρ2, a1, a2, a3⟩ => ⟨ds.length - (i + 1), by omega, by omega, rfl, ρ2, a1, a2, a3⟩, fun v H2 hy => ?_⟩
    obtain ⟨ex, rv⟩ := st v H2 hy
    have r2 := r'.grow ex
    have p2 := p'.trans (Po.grow (ρ := ρ') (σ := σ') ex)
    refine kg T ρ' σ' H2 v _ _ _ r2 (rv _ (fun a => r'.hdDom) (p'.fz (T := T))) h fun ρ3 σ3 r3 p3 _ h => ?_
    refine kb T ρ3 σ3 H2 _ _ r3 h ⟨fun ρ4 σ4 H4 r4 p4 h => ⟨ρ4, r4, (p2.trans p3).trans p4, h⟩, fun d ρ4 σ4 v4 H4 r4 p4 v5 h => k.rt d ρ4 σ4 v4 H4 r4 ((p1.trans (p2.trans p3)).trans p4) v5 h, fun ρ4 σ4 H4 r4 p4 h => k.nx ρ4 σ4 H4 r4 ((p1.trans (p2.trans p3)).trans p4) h, fun ρ4 σ4 H4 r4 p4 h => ⟨ρ4, r4, (p2.trans p3).trans p4, h⟩⟩
  · have e : i = ds.length := by omega
    subst e
    rw [List.drop_length] at h
    exact .inl ⟨it.stop H' eG, k.nx _ _ _ r' (p1.trans p') h⟩
theorem js_while {body : List Stmt} {g : DT} {f : DS} (hc : JT X c g) (hb : JSs X body f) (hp : PassesOwn (model X.prog X.w) X.A X.env X.xe := by exact PassesOwn.never) : JS X (.While c body [] pos) (sWh g f) := by
  obtain ⟨tc, pc, kc⟩ := hc.ex
  obtain ⟨tb, pb, kb⟩ := hb.ex
  refine ⟨_, ps_while hp pc pb, fun T ρ σ H E D r h k => ?_⟩
  obtain ⟨n, h⟩ := h
  refine ⟨fun m σ' H' => ∃ ρ', RS X.K T ρ' σ' H' ∧ Po ρ σ H ρ' σ' H' ∧ wpWh g f E m ρ', ⟨n, ρ, r, .refl, h⟩, ?_⟩
  rintro m σ' H' ⟨ρ', r', p', h⟩
  cases m with
  | zero => exact False.elim h
  | succ m =>
    refine kc T ρ' σ' H' _ _ r' h fun b ρ1 H1 r1 p1 h => ?_
    cases b with
    | false => exact k.nx _ _ _ r1 (p'.trans p1) h
    | true =>
      rw [if_pos rfl] at h ⊢
      refine ⟨fun σ2 H2 => ∃ ρ2, RS X.K T ρ2 σ2 H2 ∧ Po ρ σ H ρ2 σ2 H2 ∧ wpWh g f E m ρ2, fun σ2 H2 ⟨ρ2, a1, a2, a3⟩ => ⟨m, Nat.lt_succ_self m, ρ2, a1, a2, a3⟩, ?_⟩
      have q := p'.trans p1
      exact kb T ρ1 σ' H1 _ _ r1 h ⟨fun ρ4 σ4 H4 r4 p4 h => ⟨ρ4, r4, q.trans p4, h⟩, fun d ρ4 σ4 v4 H4 r4 p4 v5 h => k.rt d ρ4 σ4 v4 H4 r4 (q.trans p4) v5 h, fun ρ4 σ4 H4 r4 p4 h => k.nx ρ4 σ4 H4 r4 (q.trans p4) h, fun ρ4 σ4 H4 r4 p4 h => ⟨ρ4, r4, q.trans p4, h⟩⟩

/-! ### list comprehensions -/
def wipeD (ρ : Env) : List Nat → Env
  | [] => ρ
  | v :: vs => (wipeD ρ vs).set v none
section
variable {K : PySem.W.Frag} {T : Addr → Prop} {ρ ρ' : Env} {σ σ' : L2.St} {H H' : Hp}
theorem own_congr (hs : ∀ (i : Nat) (sv : SV), ρ[i]? = some (some sv) → σ'[i]? = σ[i]?) {a : Addr} (w : Own ρ σ' a) : Own ρ σ a := by
  obtain ⟨i, m, h1, h2⟩ := w
  exact ⟨i, m, h1, by rw [← hs i _ h1]; exact h2⟩
theorem RS.congr (r : RS K T ρ σ H) (hl : σ'.length = σ.length) (hs : ∀ (i : Nat) (sv : SV), ρ[i]? = some (some sv) → σ'[i]? = σ[i]?) : RS K T ρ σ' H := by
  have e : Ex (hide (Hd T ρ σ) H) (hide (Hd T ρ σ') H) := hide_sub fun a w => w.elim .inl fun w => .inr (own_congr hs w)
  refine ⟨by rw [r.len, hl], fun i d h => ?_, fun i m h => ?_, fun i j m m' a h1 h2 h3 h4 => ?_, fun a t w => r.dis a t (own_congr hs w), r.dom, fun i p m a h1 h2 => by rw [hs i _ h1] at h2; exact r.tag i p m a h1 h2⟩
  · obtain ⟨v, h1, h2⟩ := r.im i d h; exact ⟨v, by rw [hs i _ h]; exact h1, h2.mono e⟩
  · obtain ⟨a, o, h1, h2, h3⟩ := r.ow i m h; exact ⟨a, o, by rw [hs i _ h]; exact h1, h2, h3.mono e⟩
  · rw [hs i _ h1] at h3; rw [hs j _ h2] at h4; exact r.inj i j m m' a h1 h2 h3 h4
theorem own_drop {i : Nat} {a : Addr} (w : Own (ρ.set i none) σ a) : Own ρ σ a := by
  obtain ⟨j, m, h1, h2⟩ := w
  rcases getset h1 with ⟨_, _, h⟩ | ⟨_, h⟩
  · cases h
  · exact ⟨j, m, h, h2⟩
theorem RS.drop {i : Nat} (r : RS K T ρ σ H) : RS K T (ρ.set i none) σ H := by
  have e : Ex (hide (Hd T ρ σ) H) (hide (Hd T (ρ.set i none) σ) H) := hide_sub fun a w => w.elim .inl fun w => .inr (own_drop w)
  refine ⟨by simp [r.len], fun j d h => ?_, fun j m h => ?_, fun j k m m' a h1 h2 h3 h4 => ?_, fun a t w => r.dis a t (own_drop w), r.dom, fun j p m a h1 h2 => ?_⟩
  · rcases getset h with ⟨_, _, h⟩ | ⟨_, h⟩
    · cases h
    · obtain ⟨v, h1, h2⟩ := r.im j d h; exact ⟨v, h1, h2.mono e⟩
  · rcases getset h with ⟨_, _, h⟩ | ⟨_, h⟩
    · cases h
    · obtain ⟨a, o, h1, h2, h3⟩ := r.ow j m h; exact ⟨a, o, h1, h2, h3.mono e⟩
  · rcases getset h1 with ⟨_, _, h1⟩ | ⟨_, h1⟩
    · cases h1
    · rcases getset h2 with ⟨_, _, h2⟩ | ⟨_, h2⟩
      · cases h2
      · exact r.inj j k m m' a h1 h2 h3 h4
  · rcases getset h1 with ⟨_, _, h1⟩ | ⟨_, h1⟩
    · cases h1
    · exact r.tag j p m a h1 h2
theorem Po.drop {i : Nat} : Po ρ σ H (ρ.set i none) σ H := ⟨fun _ _ _ h => h, fun a w => .inl (own_drop w), fun _ h => h⟩
theorem RS.dropAll (r : RS K T ρ σ H) : ∀ vs : List Nat, RS K T (wipeD ρ vs) σ H
  | [] => r
  | v :: vs => (RS.dropAll r vs).drop
theorem Po.dropAll : ∀ vs : List Nat, Po ρ σ H (wipeD ρ vs) σ H
  | [] => .refl
  | v :: vs => (Po.dropAll vs).trans .drop
theorem wipeD_none : ∀ (vs : List Nat) (i : Nat) (sv : SV), (wipeD ρ vs)[i]? = some (some sv) → i ∉ vs
  | [], _, _, _ => by simp
  | v :: vs, i, sv, h => by
    rcases getset (show ((wipeD ρ vs).set v none)[i]? = _ from h) with ⟨_, _, h⟩ | ⟨ne, h⟩
    · cases h
    · intro z
      rcases List.mem_cons.mp z with z | z
      · exact ne z.symm
      · exact wipeD_none vs i sv h z
theorem wipe_ne : ∀ (vs : List Nat) (i : Nat), i ∉ vs → (wipe σ vs)[i]? = σ[i]?
  | [], _, _ => rfl
  | v :: vs, i, h => by
    show ((wipe σ vs).set v none)[i]? = _
    rw [List.getElem?_set_ne (fun z => h (by rw [z]; exact List.mem_cons_self)), wipe_ne vs i fun z => h (List.mem_cons_of_mem _ z)]
/-- the slots vs are forgotten: what stands there does not matter -/
theorem RS.wiped (r : RS K T ρ σ H) (vs : List Nat) : RS K T (wipeD ρ vs) (wipe σ vs) H := (r.dropAll vs).congr (wipe_length σ vs) fun i sv h => wipe_ne vs i (wipeD_none vs i sv h)
theorem own_wipe {vs : List Nat} {a : Addr} (w : Own (wipeD ρ vs) (wipe σ vs) a) : Own ρ σ a := by
  have w' : Own (wipeD ρ vs) σ a := own_congr (fun i sv h => wipe_ne vs i (wipeD_none vs i sv h)) w
  rcases (Po.dropAll (ρ := ρ) (σ := σ) (H := fun _ => some (.tup [])) vs).own a w' with h | h
  · exact h
  · cases h
theorem Po.wiped (vs : List Nat) : Po ρ σ H (wipeD ρ vs) (wipe σ vs) H := ⟨fun _ _ _ h => h, fun a w => .inl (own_wipe w), fun _ h => h⟩
theorem RS.unwipe {vs : List Nat} (r : RS K T (wipeD ρ vs) (wipe σ vs) H) : RS K T (wipeD ρ vs) σ H := r.congr (wipe_length σ vs).symm fun i sv h => (wipe_ne vs i (wipeD_none vs i sv h)).symm
theorem own_unwipe {vs : List Nat} {a : Addr} (w : Own (wipeD ρ vs) σ a) : Own (wipeD ρ vs) (wipe σ vs) a := own_congr (fun i sv h => (wipe_ne vs i (wipeD_none vs i sv h)).symm) w
end
structure JTs (X : Cx) (ifs : List Expr) (f : DT) : Prop where
  ex : ∃ t, PTs X ifs t ∧ ∀ (T : Addr → Prop) (ρ : Env) (σ : L2.St) (H : Hp) (QD : Bool → Env → Prop) (Q : Bool → Hp → Prop), RS X.K T ρ σ H → f ρ QD →
    (∀ b ρ' H', RS X.K T ρ' σ H' → Po ρ σ H ρ' σ H' → QD b ρ' → Q b H') → t σ H Q
def dYes : DT := fun ρ Q => Q true ρ
theorem jts_nil : JTs X [] dYes := ⟨tYes, pts_nil, fun T ρ σ H QD Q r h q => q _ _ _ r .refl h⟩
theorem jts_one {g : DT} (h : JT X c g) : JTs X [c] g := let ⟨t, pt, k⟩ := h.ex; ⟨t, pts_one pt, k⟩
/-- the readings as they are used in a block -/
def teOf (K : PySem.W.Frag) (f : DE) : TE := fun σ H Q => ∃ (T : Addr → Prop) (ρ : Env) (QD : D → Env → Prop), RS K T ρ σ H ∧ f ρ QD ∧ ∀ d ρ' v H', RS K T ρ' σ H' → Po ρ σ H ρ' σ H' → Rp K (hide (Hd T ρ' σ) H') v d → QD d ρ' → Q v H'
def ttOf (K : PySem.W.Frag) (f : DT) : TT := fun σ H Q => ∃ (T : Addr → Prop) (ρ : Env) (QD : Bool → Env → Prop), RS K T ρ σ H ∧ f ρ QD ∧ ∀ d ρ' H', RS K T ρ' σ H' → Po ρ σ H ρ' σ H' → QD d ρ' → Q d H'
def tgOf (K : PySem.W.Frag) (vs : List Nat) (g : DG) : TG := fun v σ H Q => ∃ (T : Addr → Prop) (ρ : Env) (d : D) (QD : Env → Prop), RS K T ρ σ H ∧ Rp K (hide (Hd T ρ σ) H) v d ∧ g d ρ QD ∧ ∀ ρ' σ', RS K T ρ' σ' H → Po ρ σ H ρ' σ' H → wipe σ' vs = wipe σ vs → QD ρ' → Q σ' H
theorem JE.pe (h : JE X e fa) : PE X e (teOf X.K fa) := by
  obtain ⟨t, pt, k⟩ := h.ex
  exact ⟨fun pins s σ H Q I ⟨T, ρ, QD, r, h, q⟩ => pt.run pins s σ H Q I (k T ρ σ H QD Q r h q)⟩
theorem JTs.pts {ifs : List Expr} {g : DT} (h : JTs X ifs g) : PTs X ifs (ttOf X.K g) := by
  obtain ⟨t, pt, k⟩ := h.ex
  exact ⟨fun pins s σ H Q I ⟨T, ρ, QD, r, h, q⟩ => pt.run pins s σ H Q I (k T ρ σ H QD Q r h q)⟩
theorem JG.pg {tg : Expr} {vs : List Nat} {g : DG} (h : JG X tg vs g) : PG X tg (tgOf X.K vs g) := by
  obtain ⟨t, pt, k⟩ := h.ex
  exact ⟨fun pins s σ H v u Q I rv ⟨T, ρ, d, QD, r, r2, h, q⟩ => pt.run pins s σ H v u Q I rv (k T ρ σ H v d QD Q r r2 h q)⟩
def wpLc (g : DG) (tt : DT) (te : DE) (vs : List Nat) (Q : List D → Env → Prop) : List D → List D → Env → Prop
  | [], acc, ρ => Q acc ρ
  | d :: ds, acc, ρ => acc.length < 16777216 ∧ g d (wipeD ρ vs) fun ρ1 => tt ρ1 fun b ρ2 => if b = true then te ρ2 fun y ρ3 => wpLc g tt te vs Q ds (acc ++ [y]) (wipeD ρ3 vs) else wpLc g tt te vs Q ds acc (wipeD ρ2 vs)
def lLc (fi : DL) (g : DG) (tt : DT) (te : DE) (vs : List Nat) : DL := fun ρ Q => fi ρ fun ds ρ1 => wpLc g tt te vs Q ds [] (wipeD ρ1 vs)
theorem wipeD_idem {ρ : Env} : ∀ vs : List Nat, wipeD (wipeD ρ vs) vs = wipeD ρ vs := by
  intro vs
  apply List.ext_getElem?
  intro i
  have len : ∀ (ρ : Env) (vs : List Nat), (wipeD ρ vs).length = ρ.length := fun ρ vs => by
    induction vs with
    | nil => rfl
    | cons v vs ih => show ((wipeD ρ vs).set v none).length = _; rw [List.length_set, ih]
  have at1 : ∀ (ρ : Env) (vs : List Nat), (wipeD ρ vs)[i]? = if i ∈ vs then (if i < ρ.length then some none else none) else ρ[i]? := fun ρ vs => by
    induction vs with
    | nil => simp [wipeD]
    | cons v vs ih =>
      show ((wipeD ρ vs).set v none)[i]? = _
      by_cases e : v = i
      · subst e
        by_cases hl : v < ρ.length
        · rw [List.getElem?_set_self (by rw [len]; exact hl)]; simp [hl]
        · rw [List.getElem?_eq_none_iff.mpr (by rw [List.length_set, len]; omega)]; simp [hl]
      · rw [List.getElem?_set_ne e, ih]
        simp only [List.mem_cons, show ¬ i = v from fun z => e z.symm, false_or]
  rw [at1, at1, len]
  by_cases h : i ∈ vs <;> simp [h]
theorem wipe_idem (ρ : L2.St) : ∀ vs : List Nat, wipe (wipe ρ vs) vs = wipe ρ vs := by
  intro vs
  apply List.ext_getElem?
  intro i
  have len : ∀ (ρ : L2.St) (vs : List Nat), (wipe ρ vs).length = ρ.length := fun ρ vs => by
    induction vs with
    | nil => rfl
    | cons v vs ih => show ((wipe ρ vs).set v none).length = _; rw [List.length_set, ih]
  have at1 : ∀ (ρ : L2.St) (vs : List Nat), (wipe ρ vs)[i]? = if i ∈ vs then (if i < ρ.length then some none else none) else ρ[i]? := fun ρ vs => by
    induction vs with
    | nil => simp [wipe]
    | cons v vs ih =>
      show ((wipe ρ vs).set v none)[i]? = _
      by_cases e : v = i
      · subst e
        by_cases hl : v < ρ.length
        · rw [List.getElem?_set_self (by rw [len]; exact hl)]; simp [hl]
        · rw [List.getElem?_eq_none_iff.mpr (by rw [List.length_set, len]; omega)]; simp [hl]
      · rw [List.getElem?_set_ne e, ih]
        simp only [List.mem_cons, show ¬ i = v from fun z => e z.symm, false_or]
  rw [at1, at1, len]
  by_cases h : i ∈ vs <;> simp [h]
theorem lc_read {tg iter : Expr} {vs : List Nat} {fi : DL} {g : DG} {tt : DT} {te : DE} (hi : JI X tg iter fi) : ∃ wi, PI X tg iter wi ∧ ∀ (T : Addr → Prop) (ρ : Env) (σ : L2.St) (H : Hp) (QD : List D → Env → Prop) (Q : VK), RS X.K T ρ σ H → lLc fi g tt te vs ρ QD →
    (∀ ds ρ' p vs H', H p = none → H' p = some (.lst vs) → RS X.K (plus T p) ρ' σ H' → RpAll X.K (hide (Hd (plus T p) ρ' σ) H') vs ds → Po ρ σ H ρ' σ H' → QD ds ρ' → Q (.ref p) H') → tLc wi (tgOf X.K vs g) (ttOf X.K tt) (teOf X.K te) vs σ H Q := by
  obtain ⟨wi, pi, ki⟩ := hi.ex
  refine ⟨wi, pi, fun T ρ σ H QD Q r h q => ki T ρ σ H _ _ r h fun ds ρ1 J H1 r1 p1 it h => ?_⟩
  intro L hL
  -- kept: what was known at the start stands apart from the new list
  refine ⟨fun i m H' => i ≤ ds.length ∧ m = ds.length - i ∧ ∃ ρ' acc us, ρ' = wipeD ρ' vs ∧ RS X.K (plus T L) ρ' (wipe σ vs) H' ∧ Po ρ1 σ H1 ρ' (wipe σ vs) H' ∧ H' L = some (.lst us) ∧ RpAll X.K (hide (Hd (plus T L) ρ' (wipe σ vs)) H') us acc ∧ wpLc g tt te vs QD (ds.drop i) acc ρ',
    ⟨ds.length, Nat.zero_le _, rfl, wipeD ρ1 vs, [], [], (wipeD_idem vs).symm, (r1.laid hL).wiped vs, (Po.grow (Ex.new hL)).trans (.wiped vs), upd_same, .nil, h⟩, ?_⟩
  rintro i m H' ⟨hi, rfl, ρ', acc, us, ew, r', p', hl, ra, h⟩
  have eG : Ex (hide (Hd T ρ1 σ) H1) H' := (p'.fz (T := T)).trans hide_ex
  by_cases hlt : i < ds.length
  · rw [List.drop_eq_getElem_cons hlt] at h
    obtain ⟨hz, h⟩ := h
    obtain ⟨go, st⟩ := it.step i ds[i] H' (List.getElem?_eq_getElem hlt) eG
    refine .inr ⟨go, fun H2 => ∃ ρ2 acc us, ρ2 = wipeD ρ2 vs ∧ RS X.K (plus T L) ρ2 (wipe σ vs) H2 ∧ Po ρ1 σ H1 ρ2 (wipe σ vs) H2 ∧ H2 L = some (.lst us) ∧ RpAll X.K (hide (Hd (plus T L) ρ2 (wipe σ vs)) H2) us acc ∧ wpLc g tt te vs QD (ds.drop (i + 1)) acc ρ2,
      fun H2 w => ⟨ds.length - (i + 1), by omega, by omega, rfl, w⟩, fun v H2 hy => ?_⟩
    obtain ⟨ex, rv⟩ := st v H2 hy
    rw [← ew] at h
    have r2 := r'.grow ex
    have pa2 := p'.trans (Po.grow (ρ := ρ') (σ := wipe σ vs) ex)
    have ra2 := ra.mono (hide_grow (O := Hd (plus T L) ρ' (wipe σ vs)) ex)
    have nL : H1 L = none := hL
    have eO : Ex (hide (Hd T ρ1 σ) H1) (hide (Hd (plus T L) ρ' (wipe σ vs)) H') := fun a o w => by
      obtain ⟨n, w⟩ := hide_some.1 w
      obtain ⟨n2, w2⟩ := hide_some.1 ((p'.fz (T := T)) a o (hide_some.2 ⟨n, w⟩))
      refine hide_some.2 ⟨?_, w2⟩
      rintro ((t | t) | t)
      · subst t; rw [nL] at w; cases w
      · exact n2 (.inl t)
      · exact n2 (.inr t)
    refine ⟨plus T L, ρ', ds[i], _, r2, rv _ (fun a => r'.hdDom) eO, h, fun ρ3 σ3 r3 p3 w3 h => ⟨by rw [w3]; exact wipe_idem σ vs, plus T L, ρ3, _, r3, h, fun b ρ4 H4 r4 p4 h => ?_⟩⟩
    -- the new list is never the block's own
    have keepL : ∀ {ρa : Env} {σa : L2.St} {Ha Hb : Hp} {ρb : Env} {σb : L2.St} {o : HO}, RS X.K (plus T L) ρa σa Ha → Po ρa σa Ha ρb σb Hb → Ha L = some o → Hb L = some o := fun ra pab hh => pab.keep L _ (ra.dis L (.inl rfl)) hh
    have l4 : H4 L = some (.lst us) := keepL r2 (p3.trans p4) (ex _ _ hl)
    have ra4 := ra2.mono (((p3.trans p4)).fz (T := plus T L))
    have back : ∀ {ρ5 : Env} {H5 : Hp}, RS X.K (plus T L) ρ5 σ3 H5 → RS X.K (plus T L) (wipeD ρ5 vs) (wipe σ vs) H5 := fun {ρ5 H5} r5 => by
      have z := r5.wiped vs
      rw [w3, wipe_idem] at z
      exact z
    have pback : ∀ {ρ5 : Env} {H5 : Hp}, Po ρ1 σ H1 ρ5 σ3 H5 → Po ρ1 σ H1 (wipeD ρ5 vs) (wipe σ vs) H5 := fun {ρ5 H5} p5 => by
      have z := p5.trans (Po.wiped (ρ := ρ5) (σ := σ3) (H := H5) vs)
      rw [w3, wipe_idem] at z
      exact z
    cases b with
    | false =>
      refine ⟨wipeD ρ4 vs, acc, us, (wipeD_idem vs).symm, back r4, pback (pa2.trans (p3.trans p4)), l4, ?_, h⟩
      have z := ra4.mono ((Po.wiped (ρ := ρ4) (σ := σ3) (H := H4) vs).fz (T := plus T L))
      rw [w3, wipe_idem] at z
      exact z
    | true =>
      rw [if_pos rfl] at h
      dsimp only
      rw [if_pos rfl]
      refine ⟨plus T L, ρ4, _, r4, h, fun y ρ5 w H5 r5 p5 v5 h => ?_⟩
      have l5 : H5 L = some (.lst us) := keepL r4 p5 l4
      have ra5 := (ra4.mono (p5.fz (T := plus T L))).append (.cons v5 .nil)
      have aL : ∀ (o : HO), Ex (hide (Hd (plus T L) ρ5 σ3) H5) (hide (Hd (plus T L) ρ5 σ3) (upd H5 L o)) := fun o a u w => by
        obtain ⟨n, w⟩ := hide_some.1 w
        exact hide_some.2 ⟨n, by rw [upd_ne (fun z => n (.inl (.inl z)))]; exact w⟩
      have r6 : RS X.K (plus T L) ρ5 σ3 (upd H5 L (.lst (us ++ [w]))) := by
        refine ⟨r5.len, fun j d z => ?_, fun j m z => ?_, r5.inj, r5.dis, fun a t => ?_, r5.tag⟩
        · obtain ⟨u, h1, h2⟩ := r5.im j d z; exact ⟨u, h1, h2.mono (aL _)⟩
        · obtain ⟨a, o, h1, h2, h3⟩ := r5.ow j m z
          have ne : a ≠ L := fun e => by subst e; exact r5.dis a (.inl rfl) ⟨j, m, z, h1⟩
          exact ⟨a, o, h1, by rw [upd_ne ne]; exact h2, h3.mono (aL _)⟩
        · by_cases e : a = L
          · subst e; rw [upd_same]; simp
          · rw [upd_ne e]; exact r5.dom a t
      have p6 : Po ρ1 σ H1 ρ5 σ3 (upd H5 L (.lst (us ++ [w]))) := by
        have z := (pa2.trans (p3.trans p4)).trans p5
        refine ⟨fun a o n hh => ?_, z.own, fun a hh => ?_⟩
        · rw [upd_ne (fun e => by subst e; rw [nL] at hh; cases hh)]; exact z.keep a o n hh
        · by_cases e : a = L
          · subst e; rw [upd_same]; simp
          · rw [upd_ne e]; exact z.dom a hh
      refine ⟨us, l5, by rw [ra.length]; exact hz, wipeD ρ5 vs, acc ++ [y], us ++ [w], (wipeD_idem vs).symm, back r6, pback p6, upd_same, ?_, h⟩
      have z := (ra5.mono (aL (.lst (us ++ [w])))).mono ((Po.wiped (ρ := ρ5) (σ := σ3) (H := upd H5 L (.lst (us ++ [w]))) vs).fz (T := plus T L))
      rw [w3, wipe_idem] at z
      exact z
  · have e : i = ds.length := by omega
    subst e
    rw [List.drop_length] at h
    refine .inl ⟨it.stop H' eG, ?_⟩
    rw [ew] at r' p' ra h
    refine q acc (wipeD ρ' vs) L us H' (none_back p1 hL) hl r'.unwipe (ra.mono ?_) ?_ h
    · exact hide_sub fun a w => w.elim .inl fun w => .inr (own_unwipe w)
    · exact p1.trans ⟨p'.keep, fun a w => p'.own a (own_unwipe w), p'.dom⟩
theorem jl_lc {elt tg iter : Expr} {ifs : List Expr} {scope : Scope} {own : List (Str × Nat)} {fi : DL} {g : DG} {tt : DT} {te : DE} (hc : X.calm = true) (hN : X.N.Nodup) (hi : JI X tg iter fi) (ok : BlkOk X.N X.env.scope scope own)
    (hg : ∀ (s : Shared) (H : Hp) (C : Addr) (cl : List (Str × Addr)) (fp : List Addr), JG (X.blk s H scope (compEnvC scope cl C X.env) fp) tg (own.map (·.2)) g) (ht : ∀ (s : Shared) (H : Hp) (C : Addr) (cl : List (Str × Addr)) (fp : List Addr), JTs (X.blk s H scope (compEnvC scope cl C X.env) fp) ifs tt)
    (he : ∀ (s : Shared) (H : Hp) (C : Addr) (cl : List (Str × Addr)) (fp : List Addr), JE (X.blk s H scope (compEnvC scope cl C X.env) fp) elt te) (hs : ∀ x, foldedSetIterable iter X.env x = pure x := by intro _; rfl) :
    JL X (.ListComp elt [⟨tg, iter, ifs, 0⟩] scope pos) (lLc fi g tt te (own.map (·.2))) := by
  obtain ⟨wi, pi, k⟩ := lc_read (vs := own.map (·.2)) (g := g) (tt := tt) (te := te) hi
  exact ⟨_, pe_lc (wi := wi) (g := tgOf X.K (own.map (·.2)) g) (tt := ttOf X.K tt) (te := teOf X.K te) hc hN pi ok (fun s H C cl fp => (hg s H C cl fp).pg) (fun s H C cl fp => (ht s H C cl fp).pts) (fun s H C cl fp => (he s H C cl fp).pe) hs, k⟩
/-- name = [..], the name a plain local -/
theorem js_lcO {i : Nat} {py spos : Pos} {elt tg iter : Expr} {ifs : List Expr} {scope : Scope} {own : List (Str × Nat)} {fi : DL} {g : DG} {tt : DT} {te : DE} (hc : X.calm = true) (hN : X.N.Nodup) (hy : X.N[i]? = some y) (hyl : X.env.scope.names.lookup y = some .local)
    (hsw : swapsWith (.ListComp elt [⟨tg, iter, ifs, 0⟩] scope pos) (some (.Name y py)) spos.line X.env = pure true) (hi : JI X tg iter fi) (ok : BlkOk X.N X.env.scope scope own)
    (hg : ∀ (s : Shared) (H : Hp) (C : Addr) (cl : List (Str × Addr)) (fp : List Addr), JG (X.blk s H scope (compEnvC scope cl C X.env) fp) tg (own.map (·.2)) g) (ht : ∀ (s : Shared) (H : Hp) (C : Addr) (cl : List (Str × Addr)) (fp : List Addr), JTs (X.blk s H scope (compEnvC scope cl C X.env) fp) ifs tt)
    (he : ∀ (s : Shared) (H : Hp) (C : Addr) (cl : List (Str × Addr)) (fp : List Addr), JE (X.blk s H scope (compEnvC scope cl C X.env) fp) elt te) (hs : ∀ x, foldedSetIterable iter X.env x = pure x := by intro _; rfl) :
    JS X (.Assign [.Name y py] (.ListComp elt [⟨tg, iter, ifs, 0⟩] scope pos) spos) (sSet i (xOw (lLc fi g tt te (own.map (·.2))))) := by
  obtain ⟨wi, pi, k⟩ := lc_read (vs := own.map (·.2)) (g := g) (tt := tt) (te := te) hi
  refine ⟨_, ps_setLc (wi := wi) (g := tgOf X.K (own.map (·.2)) g) (tt := ttOf X.K tt) (te := teOf X.K te) hc hN hy hyl hsw pi ok (fun s H C cl fp => (hg s H C cl fp).pg) (fun s H C cl fp => (ht s H C cl fp).pts) (fun s H C cl fp => (he s H C cl fp).pe) hs, fun T ρ σ H E D r h q => ?_⟩
  refine k T ρ σ H _ _ r h fun ds ρ1 l vs H1 n sl r1 v1 p1 h => ?_
  obtain ⟨r2, q2⟩ := fits_set (i := i) (sv := .ow (.lst ds)) r p1 ⟨l, .lst vs, rfl, n, sl, r1, v1, fun _ _ z => nomatch z⟩
  exact q.nx _ _ _ r2 q2 h
theorem js_lcF {i : Nat} {py spos : Pos} {elt tg iter : Expr} {ifs : List Expr} {scope : Scope} {own : List (Str × Nat)} {fi : DL} {g : DG} {tt : DT} {te : DE} (hc : X.calm = true) (hN : X.N.Nodup) (hy : X.N[i]? = some y) (hyl : X.env.scope.names.lookup y = some .local)
    (hsw : swapsWith (.ListComp elt [⟨tg, iter, ifs, 0⟩] scope pos) (some (.Name y py)) spos.line X.env = pure true) (hi : JI X tg iter fi) (ok : BlkOk X.N X.env.scope scope own)
    (hg : ∀ (s : Shared) (H : Hp) (C : Addr) (cl : List (Str × Addr)) (fp : List Addr), JG (X.blk s H scope (compEnvC scope cl C X.env) fp) tg (own.map (·.2)) g) (ht : ∀ (s : Shared) (H : Hp) (C : Addr) (cl : List (Str × Addr)) (fp : List Addr), JTs (X.blk s H scope (compEnvC scope cl C X.env) fp) ifs tt)
    (he : ∀ (s : Shared) (H : Hp) (C : Addr) (cl : List (Str × Addr)) (fp : List Addr), JE (X.blk s H scope (compEnvC scope cl C X.env) fp) elt te) (hs : ∀ x, foldedSetIterable iter X.env x = pure x := by intro _; rfl) :
    JS X (.Assign [.Name y py] (.ListComp elt [⟨tg, iter, ifs, 0⟩] scope pos) spos) (sSet i (xIm (dOfL (lLc fi g tt te (own.map (·.2)))))) := by
  obtain ⟨wi, pi, k⟩ := lc_read (vs := own.map (·.2)) (g := g) (tt := tt) (te := te) hi
  refine ⟨_, ps_setLc (wi := wi) (g := tgOf X.K (own.map (·.2)) g) (tt := ttOf X.K tt) (te := teOf X.K te) hc hN hy hyl hsw pi ok (fun s H C cl fp => (hg s H C cl fp).pg) (fun s H C cl fp => (ht s H C cl fp).pts) (fun s H C cl fp => (he s H C cl fp).pe) hs, fun T ρ σ H E D r h q => ?_⟩
  refine k T ρ σ H _ _ r h fun ds ρ1 l vs H1 n sl r1 v1 p1 h => ?_
  have rl : Rp X.K (hide (Hd T ρ1 σ) H1) (.ref l) (.list ds) := .lst (hide_some.2 ⟨fun w => by
    rcases w with w | w
    · exact r.dom l w n
    · exact r1.dis l (.inl rfl) w, sl⟩) (v1.mono hd_unplus)
  exact q.nx _ _ _ (r1.unplus.setIm rl) (p1.trans .setIm) h
end
end Dn
set_option Elab.async false
set_option linter.all false
set_option maxRecDepth 100000
set_option autoImplicit false
set_option maxHeartbeats 4000000
/-! enumerate of a tuple, from the iterators up -/
namespace PySem
open Sem (wp)
open AutoSeq1 (wpAny_loadPart')
theorem own_enum_new (tp : Addr) (its : Array Value) (nn : Nat) (dd : Option Addr) (ss : Array (Option Value)) :
    Meets (Builtin.«enumerate.__new__» ⟨[.type "enumerate", .ref tp], []⟩) (fun _ R st =>
      st.heap.get? tp = some { cls := .type "tuple", dict := dd, data := .seq its nn, slots := ss } ∧
      R (.ok (.ret (.ref (st.heap.push { cls := .type "tuple_iterator", data := .fields #[.ref tp, .int 0 0] }).objs.size)))
        { st with heap := (st.heap.push { cls := .type "tuple_iterator", data := .fields #[.ref tp, .int 0 0] }).push { cls := .type "enumerate", data := .fields #[.none, .bool false, .ref st.heap.objs.size, rawInt 0, .none, .none] } }) :=
  .of_wp fun prog w A R st h => by
    obtain ⟨hp, gg, dr, tk, oo⟩ := st
    obtain ⟨at_, h⟩ := h
    have isSub := sub_enumerate
    have isT : Heap.IsTuple (Shared.heap ⟨hp, gg, dr, tk, oo⟩) tp its := ⟨_, at_, rfl, nn, rfl⟩
    wp_walk using wpAny_loadPart' at_
    refine wpAny_stack_any fun _ => wpAny_pure ?_
    split
    · rename_i c _ _ _ _ _
      cases (c == Value.type "enumerate") <;>
      · wp_walk using wpAny_loadPart' at_, wpAny_pyIter_tuple isT
        exact ⟨_, rfl, h⟩
    · wp_walk using wpAny_loadPart' at_, wpAny_pyIter_tuple isT
      exact ⟨_, rfl, h⟩
theorem own_enum_call {prog : Program} {w : World} {A : Around} {E : Value → Shared → Prop} {st : Shared} {tp : Addr} {its : Array Value} {Q : Value → Shared → Prop} (isT : st.heap.IsTuple tp its)
    (h : ∀ hp : Heap, IsEnum hp (st.heap.objs.size + 1) st.heap.objs.size 0 .none → hp.IsTupleIter st.heap.objs.size tp 0 →
      (∀ b o, st.heap.get? b = some o → hp.get? b = some o) → Q (.ref (st.heap.objs.size + 1)) { st with heap := hp }) :
    wpAny (model prog w) A (call (.type "enumerate") [.ref tp]) Q E st := by
  obtain ⟨⟨cc, dd, dt, ss⟩, at_, hc, nn, hd⟩ := isT
  replace hc : cc = .type "tuple" := hc
  replace hd : dt = .seq its nn := hd
  subst hc hd
  refine callType_new F.called_enumerate (by decide) (F.typeCall_enumerate_1 _) (F.newCall_enumerate_1 _) (fun ob => F.args_object_init_2 ob _) F.entry_enumerate_new (own_enum_new tp its nn dd ss) ⟨at_, ?_⟩
  generalize hI : ({ cls := .type "tuple_iterator", data := .fields #[.ref tp, .int 0 0] } : Obj) = oI
  generalize hE : ({ cls := .type "enumerate", data := .fields #[.none, .bool false, .ref st.heap.objs.size, rawInt 0, .none, .none] } : Obj) = oE
  have sz : (st.heap.push oI).objs.size = st.heap.objs.size + 1 := Heap.size_push ..
  have nf : oE.isFreed = false := by subst hE; rfl
  have nI : oI.isFreed = false := by subst hI; rfl
  have gE : ((st.heap.push oI).push oE).get? (st.heap.objs.size + 1) = some oE := by
    have z := Heap.get?_push_size (st.heap.push oI) (o := oE) nf
    rwa [sz] at z
  have gI : ((st.heap.push oI).push oE).get? st.heap.objs.size = some oI := Heap.get?_push_of_some _ (Heap.get?_push_size _ nI)
  show _ ∧ _
  rw [sz]
  subst hE hI
  exact ⟨⟨_, gE, rfl⟩, h _ gE ⟨{ cls := .type "tuple_iterator", data := .fields #[.ref tp, .int 0 0] }, gI, rfl, rfl⟩ fun b o x => Heap.get?_push_of_some _ (Heap.get?_push_of_some _ x)⟩
end PySem
namespace Dn
open PySem L2 Evl PySem.Spec PyProof.Rows
/-- the tuple at a, each item in a new pair with its place -/
def IteT (K : PySem.W.Frag) (a : Addr) : It where
  go := fun i H => ∃ (xs : List V) (x : V), SqT K H a xs ∧ xs[i]? = some x
  yld := fun i H v H' => ∃ l x, v = .ref l ∧ H l = none ∧ H' = upd H l (.tup [.int (i : Nat), x]) ∧ ∀ xs, SqT K H a xs → xs[i]? = some x
  stop := fun i H => ∃ xs : List V, SqT K H a xs ∧ xs.length ≤ i
theorem turn_enT {P : Program} {w : World} {K : PySem.W.Frag} {elts : List Expr} {kk : Nat} {tpos : Pos} (a e it : Addr) :
    Turn P w K (.Tuple elts kk tpos) (IteT K a) [e, it] e (fun i h => (∃ old, IsEnum h e it ((i : Nat) : Int) old) ∧ h.IsTupleIter it a i ∧ e ≠ it) where
  mem := by simp
  obj := fun i h st b hb => by
    obtain ⟨⟨old, he⟩, ⟨o, ho, hc, hd⟩, _⟩ := st
    rcases (show b = e ∨ b = it by simpa using hb) with rfl | rfl
    · exact ⟨_, he, fun v q => nomatch q⟩
    · exact ⟨o, ho, fun v q => by rw [hd] at q; cases q⟩
  keep := fun i h h' ⟨⟨old, he⟩, hi, hne⟩ k => ⟨⟨old, k e (by simp) _ he⟩, hi.at fun o q => k it (by simp) o q, hne⟩
  item := by
    intro X hP hw hK hc i pins s σ H E I hf st hg
    subst hP hw hK
    obtain ⟨⟨old, he⟩, hit, hne⟩ := st
    obtain ⟨xs, x, hq, hx⟩ := hg
    obtain ⟨its, rv, isT, hz⟩ := I.tuple hq
    obtain ⟨u, hu, ru⟩ := rv.get hx
    have isT' : s.heap.IsTuple a its.toArray := isT
    have hil : it < s.heap.objs.size := by obtain ⟨_, q, _⟩ := hit; exact Heap.lt_size q
    have hel : e < s.heap.objs.size := Heap.lt_size he
    have ai : a ≠ it := fun z => by
      subst z
      obtain ⟨o1, q1, c1, _⟩ := isT'
      obtain ⟨o2, q2, c2, _⟩ := hit
      rw [q1] at q2; cases q2
      have z : Value.type "tuple" = Value.type "tuple_iterator" := (show _ = o1.cls from Eq.symm c1).trans c2
      injection z with z
      exact absurd z (by decide)
    have ae : e ≠ a := fun z => by
      subst z
      obtain ⟨o1, q1, c1, _⟩ := isT'
      rw [show s.heap.get? e = some _ from he] at q1; cases q1
      have z : Value.type "enumerate" = Value.type "tuple" := c1
      injection z with z
      exact absurd z (by decide)
    have lt : i < its.toArray.size := by
      have := (List.getElem?_eq_some_iff.mp hu).1
      simpa using this
    refine wpAny_pyNext_enum_itemD (Draws.tuple (A := X.A.in1) (show X.A.in1.handled = none from I.ok.hd hc) it a ai its.toArray) he ⟨hit, isT'⟩ lt hne (by simp [hne, ae]) fun y h' tk hy ho st' hT hsz hk => ?_
    have yu : y = u := by
      have z : its.toArray[i]? = some u := by simpa using hu
      rw [hy] at z; cases z; rfl
    subst yu
    refine ⟨_, rfl, wpAny_letOwnedTupleGo_enum (s := { s with heap := h', toks := tk + 1 }) ho fun h2 he2 sb => ?_⟩
    have hT2 : h2.get? s.heap.objs.size = some { cls := .type "tuple", data := .seq #[.int i tk, y] } := (sb.2 _ (Nat.ne_of_gt hel)).trans hT
    have kp : ∀ b ob, b ∉ [e, it] → s.heap.get? b = some ob → h2.get? b = some ob := fun b ob hb q => by
      have b1 : b ≠ e := fun z => hb (by simp [z])
      have b2 : b ≠ it := fun z => hb (by simp [z])
      exact (sb.2 b b1).trans (hk b ob b1 b2 q)
    have okT : ObjOk X.prog X.w (upd H s.heap.objs.size (.tup [.int (i : Nat), x])) h2 s.heap.objs.size (.tup [.int (i : Nat), x]) :=
      ⟨by show 2 ≤ sizeLine; decide, [.int i tk, y], .cons ⟨_, rfl⟩ (.cons ru .nil), ⟨_, hT2, rfl, _, rfl⟩⟩
    have I2 : Inv X pins σ (upd H s.heap.objs.size (.tup [.int (i : Nat), x])) { s with heap := h2, toks := tk + 1 } := I.turnedNew (ch := [e, it]) kp hf (Nat.le_refl _) okT
    refine ⟨.ref s.heap.objs.size, _, I2, rfl, ⟨_, x, rfl, I.hok.fresh (Nat.le_refl _), rfl, fun ys hys => by rw [I.tuple_inj hys hq]; exact hx⟩, ⟨⟨y, ?_⟩, st'.1.at fun o q => (sb.2 it (Ne.symm hne)).trans q, hne⟩, fun b hb => ?_⟩
    · have e1 : ((i + 1 : Nat) : Int) = (i : Int) + 1 := by omega
      rw [e1]; exact he2
    · have bl : b < s.heap.objs.size := by
        rcases (show b = e ∨ b = it by simpa using hb) with rfl | rfl
        · exact hel
        · exact hil
      rw [upd_ne (Nat.ne_of_lt bl)]
      exact (hf b hb).1
  done := by
    intro X hP hw hK hc i pins s σ H E I hf st hg
    subst hP hw hK
    obtain ⟨⟨old, he⟩, hit, hne⟩ := st
    obtain ⟨xs, hq, hx⟩ := hg
    obtain ⟨its, rv, isT, hz⟩ := I.tuple hq
    have isT' : s.heap.IsTuple a its.toArray := isT
    obtain ⟨f0, f1, f2, f3, f4, f5⟩ := hf it (by simp)
    have hl := rv.length
    have nx : its.toArray[i]? = none := by simp; omega
    have hT : s.TypeIs (.ref e) "enumerate" := ⟨_, he, rfl⟩
    show wpAny _ _ (pyNext (.ref e)) _ _ _
    unfold pyNext
    refine wpAny_bind (wpAny_attempt (wpAny_callSpecial?_slot (name := Str.ofString "__next__") hT F.slot_enumerate_next (wpAny_call_entry F.slot_enumerate_next hT F.entry_enumerate_next ?_ (F.args_enumerate_next_1 _))))
    show wpAny _ _ (field (.ref e) 2 >>= _) _ _ _
    refine wpAny_bind (wpAny_field he rfl (x := .ref it) rfl ?_)
    refine wpAny_bind (wpAny_nextOf_tuple_end (show X.A.in1.handled = none from I.ok.hd hc) hit isT' nx fun h' ex hs' hx' => ?_)
    obtain ⟨o, ho, hcl⟩ := hx'
    refine wpAny_bind (wpAny_isInstance (T := "StopIteration") (b := true) ⟨o, ho, hcl⟩ isSubtype_stop ?_)
    exact wpAny_pure ⟨rfl, I.turned (t' := s.toks) (fun b o hb q => hs' b o hb q) f0 f1 f3 f4 f5⟩
  self := fun A i s Q E st h => let ⟨⟨_, he⟩, _⟩ := st; wpAny_pyIter_enum he h
def iEnT0 (K : PySem.W.Frag) (ta : TA) : TI := fun σ H R => ta σ H fun vs H1 => ∃ a xs, vs = [.ref a] ∧ SqT K H1 a xs ∧ R (IteT K a) H1
theorem pi_enT {X : Cx} {e : Expr} {ta : TA} {p pos tpos : Pos} {elts : List Expr} {kk : Nat} (hg : Gl X "enumerate") (hm : X.mg "enumerate" = none) (ha : PA X [e] ta) (hs : starEach [e] X.env = [(false, eval e X.env)] := by rfl) :
    PI X (.Tuple elts kk tpos) (.Call (.Name "enumerate" p) [e] [] pos) (iEnT0 X.K ta) := by
  refine ⟨fun pins s σ H R I h => ?_⟩
  refine Call_ (ld_blt I hg hm boot_enumerate (PyProof.Rows.callWith_type1 (thn (ha.run pos pins s σ H _ I h) fun us s1 ⟨vs, H1, I1, r1, q1⟩ => ?_) hs rfl))
  obtain ⟨a, xs, ex, hq, q⟩ := q1
  subst ex
  obtain ⟨u, rfl, ru⟩ := vals1 r1
  cases ru
  obtain ⟨its, rv, isT, hz⟩ := I1.tuple hq
  refine own_enum_call (show s1.heap.IsTuple a its.toArray from isT) fun hp he hit hk => wpAny_pyIter_enum he ?_
  have I2 : Inv X pins σ H1 { s1 with heap := hp } := I1.kept (t' := s1.toks) hk
  refine ⟨s1.heap.objs.size + 1, [s1.heap.objs.size + 1, s1.heap.objs.size], _, _, H1, rfl, I2, turn_enT a (s1.heap.objs.size + 1) s1.heap.objs.size, ⟨⟨.none, he⟩, hit, Nat.succ_ne_self _⟩, fun b hb => ?_, q⟩
  have ge : s1.heap.objs.size ≤ b := by
    rcases (show b = s1.heap.objs.size + 1 ∨ b = s1.heap.objs.size by simpa using hb) with z | z <;> subst z
    · exact Nat.le_succ _
    · exact Nat.le_refl _
  exact I1.fpOk ge (I1.hok.fresh ge)
section
variable {X : Cx} {a : Expr} {fa : DE} {pos p : Pos}
def iEnT (f : DE) : DL := fun ρ Q => f ρ fun d ρ1 => match d with
  | .tuple ds => Q (enD ds) ρ1
  | _ => False
theorem ji_enumT {elts : List Expr} {kk : Nat} {tpos : Pos} (hm : X.mg "enumerate" = none) (ha : JE X a fa) (hg : Gl X "enumerate" := by rfl) (hs : starEach [a] X.env = [(false, eval a X.env)] := by rfl) : JI X (.Tuple elts kk tpos) (.Call (.Name "enumerate" p) [a] [] pos) (iEnT fa) := by
  obtain ⟨t, pt, kt⟩ := ha.ex
  refine ⟨_, pi_enT hg hm (pa_cons pt pa_nil hs) hs, fun T ρ σ H QD R r h q => kt T ρ σ H _ _ r h fun d ρ1 v H1 r1 p1 v1 h => ?_⟩
  cases v1 with
  | @tup a xs ds hp rr =>
    refine ⟨_, _, rfl, sqt_of hp, q _ _ _ _ r1 p1 ⟨fun H e => ⟨xs, ex_t e (lt_of hp), by rw [enD_len, rr.length]; exact Nat.le_refl _⟩, fun i d H hd e => ?_⟩ h⟩
    obtain ⟨g, hg, rfl⟩ := enD_get hd
    obtain ⟨u, hu, ru⟩ := rr.get hg
    refine ⟨⟨xs, u, ex_t e (lt_of hp), hu⟩, fun x H' y => ?_⟩
    obtain ⟨l, z, rfl, hl, rfl, y⟩ := y
    have := y xs (ex_t e (lt_of hp))
    rw [hu] at this; cases this
    exact ⟨Ex.new hl, fun O hO eo => rp_newT hO hl (.cons (.int _) (.cons (ru.mono eo) .nil))⟩
  | _ => exact False.elim h
end
end Dn
set_option Elab.async false
set_option linter.all false
set_option maxRecDepth 100000
set_option autoImplicit false
set_option maxHeartbeats 4000000
namespace Dn
open PySem L2 Evl PySem.Spec
section
variable {X : Cx} {a b c e : Expr} {fa fb fc : DE} {pos p : Pos} {es : List Expr} {x y : Str}
/-! ### owned lists by their content -/
def MO.getL : MO → Option (List D)
  | .lst ds => some ds
  | .par _ m => m.getL
  | _ => none
def MO.putL : MO → List D → MO
  | .par p _, ds => .par p (.lst ds)
  | _, ds => .lst ds
theorem getL_rp {K : PySem.W.Frag} {G : Hp} : ∀ {m : MO} {o : HO} {ds : List D}, RpO K G m o → m.getL = some ds → ∃ vs, o = .lst vs ∧ RpAll K G vs ds
  | .lst ds, o, es, h, e => by
    cases e
    cases o <;> first | exact False.elim h | exact ⟨_, rfl, h⟩
  | .par _ m, o, es, h, e => getL_rp (m := m) (by unfold RpO at h; exact h) e
  | .dct _, o, es, h, e => by cases e
  | .rng _, o, es, h, e => by cases e
theorem putL_rp {K : PySem.W.Frag} {G : Hp} {m : MO} {vs : List V} {ds : List D} (h : RpAll K G vs ds) : RpO K G (m.putL ds) (.lst vs) := by
  cases m <;> first | exact h | (unfold MO.putL RpO; exact h)
theorem putL_tag {K : PySem.W.Frag} {T : Addr → Prop} {ρ : Env} {σ : L2.St} {H : Hp} {i : Nat} {m : MO} {ds : List D} {p : Addr} (r : RS K T ρ σ H) (hm : ρ[i]? = some (some (SV.ow m))) (hp : σ[i]? = some (some (V.ref p))) : ∀ q m1, m.putL ds = .par q m1 → p = q := fun q m1 h => by
  cases m with
  | par q' m' => cases h; exact r.tag i _ _ p hm hp
  | _ => cases h
/-- what stands in slot i, if it is an owned list -/
def atO (ρ : Env) (i : Nat) : Option (List D) := match ρ[i]? with
  | some (some (.ow m)) => m.getL
  | _ => none
def setO (ρ : Env) (i : Nat) (ds : List D) : Env := match ρ[i]? with
  | some (some (.ow m)) => ρ.set i (some (.ow (m.putL ds)))
  | _ => ρ
theorem atO_some {ρ : Env} {i : Nat} {ds : List D} (h : atO ρ i = some ds) : ∃ m, ρ[i]? = some (some (SV.ow m)) ∧ m.getL = some ds := by
  unfold atO at h
  split at h
  · exact ⟨_, by assumption, h⟩
  · cases h
theorem RS.atO {K : PySem.W.Frag} {T : Addr → Prop} {ρ : Env} {σ : L2.St} {H : Hp} {i : Nat} {ds : List D} (r : RS K T ρ σ H) (h : Dn.atO ρ i = some ds) : ∃ m q vs, ρ[i]? = some (some (SV.ow m)) ∧ σ[i]? = some (some (V.ref q)) ∧ H q = some (.lst vs) ∧ RpAll K (hide (Hd T ρ σ) H) vs ds := by
  obtain ⟨m, hm, hg⟩ := atO_some h
  obtain ⟨q, o, h1, h2, h3⟩ := r.ow i m hm
  obtain ⟨vs, rfl, h4⟩ := getL_rp h3 hg
  exact ⟨m, q, vs, hm, h1, h2, h4⟩
theorem RS.setO {K : PySem.W.Frag} {T : Addr → Prop} {ρ : Env} {σ : L2.St} {H : Hp} {i : Nat} {m : MO} {q : Addr} {vs : List V} {ds : List D} (r : RS K T ρ σ H) (hm : ρ[i]? = some (some (SV.ow m))) (hq : σ[i]? = some (some (V.ref q))) (h : RpAll K (hide (Hd T ρ σ) H) vs ds) :
    RS K T (Dn.setO ρ i ds) σ (upd H q (.lst vs)) ∧ Po ρ σ H (Dn.setO ρ i ds) σ (upd H q (.lst vs)) := by
  unfold Dn.setO
  rw [hm]
  exact ⟨r.write hm hq (putL_rp h) (putL_tag r hm hq), .write hm hq⟩
theorem own_same {T : Addr → Prop} {ρ : Env} {σ : L2.St} {H : Hp} {i : Nat} {m m' : MO} {q : Addr} {o : HO} (hm : ρ[i]? = some (some (SV.ow m))) (hq : σ[i]? = some (some (V.ref q))) : Ex (hide (Hd T ρ σ) H) (hide (Hd T (ρ.set i (some (SV.ow m'))) σ) (upd H q o)) := (Po.write (m' := m') (o' := o) hm hq).fz

/-- x[i], x an owned list (a parameter, too) -/
def dIxP (i : Nat) (fb : DE) : DE := fun ρ Q => (atO ρ i).isSome = true ∧ fb ρ fun y ρ1 => ∃ ds j d, atO ρ1 i = some ds ∧ y = .int j ∧ atI ds j = some d ∧ Q d ρ1
theorem je_ixP {i : Nat} {px : Pos} (hN : X.N[i]? = some x) (hv : Vis X.env.scope x) (hb : JE X b fb) (hs : PlainIx b := by exact fun _ _ => rfl) (hd : (x == ("__debug__" : Str)) = false := by decide) (hcd : (x == ("__classdict__" : Str)) = false := by decide) :
    JE X (.Subscript (.Name x px) b pos) (dIxP i fb) := by
  obtain ⟨tb, pb, kb⟩ := hb.ex
  refine ⟨_, pe_ix ix_list (pe_var hN hv hd hcd) pb hs, fun T ρ σ H QD Q r h q => ?_⟩
  obtain ⟨h0, h⟩ := h
  obtain ⟨ds0, h0⟩ := Option.isSome_iff_exists.mp h0
  obtain ⟨m, l, vs, _, hl, _, _⟩ := r.atO h0
  refine ⟨_, hl, kb T ρ σ H _ _ r h fun y ρ1 v H1 r1 p1 v1 h => ?_⟩
  obtain ⟨ds, j, d, h1, rfl, h2, h3⟩ := h
  obtain ⟨m', l', vs', _, hl', ho', hr'⟩ := r1.atO h1
  rw [hl] at hl'; cases hl'
  obtain ⟨u, h4, h5⟩ := atI_rp hr' h2
  cases v1
  exact ⟨_, _, _, _, rfl, rfl, .inl (.inl ho'), h4, q _ _ _ _ r1 p1 h5 h3⟩
/-- x[i] = e -/
def sSub (i : Nat) (fi fe : DE) : DS := fun E ρ => fe ρ fun d ρ1 => (atO ρ1 i).isSome = true ∧ fi ρ1 fun k ρ2 => ∃ ds j m, atO ρ2 i = some ds ∧ k = .int j ∧ ixN ds.length j = some m ∧ E.nx (setO ρ2 i (ds.set m d))
theorem js_sub {i : Nat} {px ps : Pos} {f1 f2 : DE} (hN : X.N[i]? = some x) (hv : Vis X.env.scope x) (hi : JE X b f1) (he : JE X e f2) (hd : (x == ("__debug__" : Str)) = false := by decide) (hcd : (x == ("__classdict__" : Str)) = false := by decide)
    (ha : ∀ v, assign (.Subscript (.Name x px) b ps) X.env v = (do
      let ov ← holding [v] (eval (.Name x px) X.env); let iv ← holding [v, ov] (eval b X.env); standAt ps; holding [v, ov, iv] (setItem ov iv v); release [v, ov, iv] []) := by intro _; rfl)
    (hs : swapsWithSole [.Subscript (.Name x px) b ps] e pos.line X.env = pure false := by rfl) (hw : swappedStores [.Subscript (.Name x px) b ps] e X.env = pure none := by rfl) (h1 : (assignEach [.Subscript (.Name x px) b ps] X.env).map (·.2) = [assign (.Subscript (.Name x px) b ps) X.env] := by rfl) :
    JS X (.Assign [.Subscript (.Name x px) b ps] e pos) (sSub i f1 f2) := by
  obtain ⟨t1, p1, k1⟩ := hi.ex
  obtain ⟨t2, p2, k2⟩ := he.ex
  refine ⟨_, ps_asg p2 (pg_sub (pe_var hN hv hd hcd) p1 set_list ha) hs hw h1, fun T ρ σ H E D r h k => k2 T ρ σ H _ _ r h fun d ρ1 v H1 r1 q1 v1 h => ?_⟩
  obtain ⟨h0, h⟩ := h
  obtain ⟨ds0, h0⟩ := Option.isSome_iff_exists.mp h0
  obtain ⟨m, l, vs, _, hl, _, _⟩ := r1.atO h0
  refine ⟨_, hl, k1 T ρ1 σ H1 _ _ r1 h fun kk ρ2 w H2 r2 q2 v2 h => ?_⟩
  obtain ⟨ds, j, n, h2, rfl, h3, h4⟩ := h
  obtain ⟨m', l', vs', hm', hl', ho', hr'⟩ := r2.atO h2
  rw [hl] at hl'; cases hl'
  cases v2
  obtain ⟨r3, q3⟩ := r2.setO hm' hl (hr'.set n (v1.mono q2.fz))
  exact ⟨l, vs', j, n, rfl, rfl, ho', by rw [hr'.length]; exact h3, k.nx _ _ _ r3 ((q1.trans q2).trans q3) h4⟩
/-- methods of an owned list, as expressions -/
def dApp (i : Nat) (f : DE) : DE := fun ρ Q => (atO ρ i).isSome = true ∧ f ρ fun d ρ1 => ∃ ds, atO ρ1 i = some ds ∧ ds.length < 16777216 ∧ Q .none (setO ρ1 i (ds ++ [d]))
theorem je_app {i : Nat} {px pa pc : Pos} (hN : X.N[i]? = some x) (hv : Vis X.env.scope x) (he : JE X e fa) (hd : (x == ("__debug__" : Str)) = false := by decide) (hcd : (x == ("__classdict__" : Str)) = false := by decide)
    (hbase : attributeBase (.Name x px) "append" X.env (eval (.Name x px) X.env) = eval (.Name x px) X.env := by rfl)
    (hfew : ((backTo pc (starEach [e] X.env)).all (fun x => !x.1) && (backToKw pc (keywordEach [] X.env)).all (fun x => x.1.isSome) && decide ([e].length + ([] : List Keyword).length + (if ([] : List Keyword).isEmpty then 0 else 1) < 30)) = true := by rfl)
    (hline : (pa.endLine == pc.line) = true := by rfl) (hs : starEach [e] X.env = (false, eval e X.env) :: starEach [] X.env := by rfl) : JE X (.Call (.Attribute (.Name x px) "append" pa) [e] [] pc) (dApp i fa) := by
  obtain ⟨t, pt, kt⟩ := he.ex
  refine ⟨_, pe_bm PySem.F.plainAttrs_list PySem.F.slot_list_append PySem.F.type_list_append mt_append (pe_var hN hv hd hcd) (pa_cons pt pa_nil hs) hbase hfew hline hs, fun T ρ σ H QD Q r h q => ?_⟩
  obtain ⟨h0, h⟩ := h
  obtain ⟨ds0, h0⟩ := Option.isSome_iff_exists.mp h0
  obtain ⟨m, l, vs, _, hl, ho, _⟩ := r.atO h0
  refine ⟨_, hl, .inl ⟨rfl, _, .inl (.inl ho)⟩, kt T ρ σ H _ _ r h fun d ρ1 v H1 r1 p1 v1 h => ?_⟩
  obtain ⟨ds, h1, hz, h2⟩ := h
  obtain ⟨m', l', vs', hm', hl', ho', hr'⟩ := r1.atO h1
  rw [hl] at hl'; cases hl'
  obtain ⟨r3, q3⟩ := r1.setO hm' hl (hr'.append (.cons v1 .nil))
  exact ⟨l, vs', v, rfl, rfl, ho', by rw [hr'.length]; exact hz, q _ _ _ _ r3 (p1.trans q3) .non h2⟩
def dExt (i : Nat) (f : DE) : DE := fun ρ Q => (atO ρ i).isSome = true ∧ f ρ fun d ρ1 => ∃ ds es, atO ρ1 i = some ds ∧ d = .list es ∧ ds.length + es.length ≤ 16777216 ∧ Q .none (setO ρ1 i (ds ++ es))
theorem je_ext {i : Nat} {px pa pc : Pos} (hN : X.N[i]? = some x) (hv : Vis X.env.scope x) (he : JE X e fa) (hd : (x == ("__debug__" : Str)) = false := by decide) (hcd : (x == ("__classdict__" : Str)) = false := by decide)
    (hbase : attributeBase (.Name x px) "extend" X.env (eval (.Name x px) X.env) = eval (.Name x px) X.env := by rfl)
    (hfew : ((backTo pc (starEach [e] X.env)).all (fun x => !x.1) && (backToKw pc (keywordEach [] X.env)).all (fun x => x.1.isSome) && decide ([e].length + ([] : List Keyword).length + (if ([] : List Keyword).isEmpty then 0 else 1) < 30)) = true := by rfl)
    (hline : (pa.endLine == pc.line) = true := by rfl) (hs : starEach [e] X.env = (false, eval e X.env) :: starEach [] X.env := by rfl) : JE X (.Call (.Attribute (.Name x px) "extend" pa) [e] [] pc) (dExt i fa) := by
  obtain ⟨t, pt, kt⟩ := he.ex
  refine ⟨_, pe_bm PySem.F.plainAttrs_list PySem.F.slot_list_extend PySem.F.type_list_extend mt_extend (pe_var hN hv hd hcd) (pa_cons pt pa_nil hs) hbase hfew hline hs, fun T ρ σ H QD Q r h q => ?_⟩
  obtain ⟨h0, h⟩ := h
  obtain ⟨ds0, h0⟩ := Option.isSome_iff_exists.mp h0
  obtain ⟨m, l, vs, _, hl, ho, _⟩ := r.atO h0
  refine ⟨_, hl, .inl ⟨rfl, _, .inl (.inl ho)⟩, kt T ρ σ H _ _ r h fun d ρ1 v H1 r1 p1 v1 h => ?_⟩
  obtain ⟨ds, es, h1, rfl, hz, h2⟩ := h
  obtain ⟨m', l', vs', hm', hl', ho', hr'⟩ := r1.atO h1
  rw [hl] at hl'; cases hl'
  cases v1 with
  | lst hp rr =>
    obtain ⟨r3, q3⟩ := r1.setO hm' hl (hr'.append rr)
    exact ⟨l, _, vs', _, rfl, rfl, ho', at_of hp, by rw [hr'.length, rr.length]; exact hz, q _ _ _ _ r3 (p1.trans q3) .non h2⟩
def dPopAt (i : Nat) (f : DE) : DE := fun ρ Q => (atO ρ i).isSome = true ∧ f ρ fun k ρ1 => ∃ ds j n d, atO ρ1 i = some ds ∧ k = .int j ∧ 0 ≤ j ∧ j < ds.length ∧ n = j.toNat ∧ ds[n]? = some d ∧ ds.length ≤ 1000000 ∧ Q d (setO ρ1 i (ds.eraseIdx n))
theorem je_popAt {i : Nat} {px pa pc : Pos} (hN : X.N[i]? = some x) (hv : Vis X.env.scope x) (he : JE X e fa) (hd : (x == ("__debug__" : Str)) = false := by decide) (hcd : (x == ("__classdict__" : Str)) = false := by decide)
    (hbase : attributeBase (.Name x px) "pop" X.env (eval (.Name x px) X.env) = eval (.Name x px) X.env := by rfl)
    (hfew : ((backTo pc (starEach [e] X.env)).all (fun x => !x.1) && (backToKw pc (keywordEach [] X.env)).all (fun x => x.1.isSome) && decide ([e].length + ([] : List Keyword).length + (if ([] : List Keyword).isEmpty then 0 else 1) < 30)) = true := by rfl)
    (hline : (pa.endLine == pc.line) = true := by rfl) (hs : starEach [e] X.env = (false, eval e X.env) :: starEach [] X.env := by rfl) : JE X (.Call (.Attribute (.Name x px) "pop" pa) [e] [] pc) (dPopAt i fa) := by
  obtain ⟨t, pt, kt⟩ := he.ex
  refine ⟨_, pe_bm PySem.F.plainAttrs_list PySem.F.slot_list_pop PySem.F.type_list_pop mt_popAt (pe_var hN hv hd hcd) (pa_cons pt pa_nil hs) hbase hfew hline hs, fun T ρ σ H QD Q r h q => ?_⟩
  obtain ⟨h0, h⟩ := h
  obtain ⟨ds0, h0⟩ := Option.isSome_iff_exists.mp h0
  obtain ⟨m, l, vs, _, hl, ho, _⟩ := r.atO h0
  refine ⟨_, hl, .inl ⟨rfl, _, .inl (.inl ho)⟩, kt T ρ σ H _ _ r h fun d ρ1 v H1 r1 p1 v1 h => ?_⟩
  obtain ⟨ds, j, n, z, h1, rfl, j0, jl, hn, hz, hlen, h2⟩ := h
  obtain ⟨m', l', vs', hm', hl', ho', hr'⟩ := r1.atO h1
  rw [hl] at hl'; cases hl'
  cases v1
  obtain ⟨u, hu, ru⟩ := hr'.get hz
  obtain ⟨r3, q3⟩ := r1.setO hm' hl (hr'.erase n)
  have ix : seqIndex? j vs'.length = some n := by
    have hx : ixN vs'.length j = some n := by
      unfold ixN
      rw [if_pos j0, if_pos (by rw [hr'.length]; exact jl), hn]
    exact (ixN_seq hx).1
  exact ⟨l, vs', j, n, u, rfl, rfl, ho', by omega, by omega, ix, hu, q _ _ _ _ r3 (p1.trans q3) (ru.mono q3.fz) h2⟩
/-- an owned list's name as a value: from there on it stands as it is -/
def dVarF (i : Nat) : DE := fun ρ Q => match ρ[i]? with
  | some (some (.ow (.lst ds))) => Q (.list ds) (ρ.set i (some (.im (.list ds))))
  | _ => False
theorem je_varF {i : Nat} (hN : X.N[i]? = some x) (hv : Vis X.env.scope x) (hd : (x == ("__debug__" : Str)) = false := by decide) (hcd : (x == ("__classdict__" : Str)) = false := by decide) : JE X (.Name x pos) (dVarF i) := by
  refine ⟨_, pe_var hN hv hd hcd, fun T ρ σ H QD Q r h q => ?_⟩
  unfold dVarF at h
  split at h
  · rename_i ds e1
    have rf := r.freeze e1
    obtain ⟨v, hv, rv⟩ := rf.im i (.list ds) (List.getElem?_set_self (List.getElem?_eq_some_iff.mp e1).1)
    exact ⟨v, hv, q _ _ _ _ rf .freeze rv h⟩
  · exact False.elim h

/-! ### in, not in; {}; repr of truth values -/
def dIn (neg : Bool) : D → D → (D → Prop) → Prop := fun x y Q => ∃ ds, seqD y = some ds ∧ isSc x = true ∧ ds.all isSc = true ∧ Q (.bool (if neg then !(ds.any fun z => PyData.eqv z x) else ds.any fun z => PyData.eqv z x))
theorem flat_sc {K : PySem.W.Frag} {G : Hp} {v : V} {d : D} (r : Rp K G v d) (h : isSc d = true) : flatV v = true := by cases r <;> first | rfl | (simp [isSc] at h; done)
theorem flat_all {K : PySem.W.Frag} {G : Hp} : ∀ {vs : List V} {ds : List D}, RpAll K G vs ds → ds.all isSc = true → vs.all flatV = true
  | _, _, .nil, _ => rfl
  | _, _, .cons h r, c => by
    rw [List.all_cons, Bool.and_eq_true] at c ⊢
    exact ⟨flat_sc h c.1, flat_all r c.2⟩
theorem eqV_rp {K : PySem.W.Frag} {G G' : Hp} {v u : V} {d e : D} (r : Rp K G v d) (s : Rp K G' u e) (h1 : isSc d = true) (h2 : isSc e = true) : eqV v u = PyData.eqv d e := by
  cases r <;> first | (simp [isSc] at h1; done) | skip
  all_goals cases s <;> first | (simp [isSc] at h2; done) | simp [eqV, PyData.eqv]
theorem inV_rp {K : PySem.W.Frag} {G G' : Hp} {x : V} {d : D} (s : Rp K G' x d) (h1 : isSc d = true) : ∀ {vs : List V} {ds : List D}, RpAll K G vs ds → ds.all isSc = true → inV x vs = ds.any fun z => PyData.eqv z d
  | _, _, .nil, _ => rfl
  | _, _, .cons h r, c => by
    rw [List.all_cons, Bool.and_eq_true] at c
    show (eqV _ _ || inV _ _) = (_ || _)
    rw [eqV_rp h s c.1 h1, inV_rp s h1 r c.2]
theorem opd_in : OpD X (compareOp .In) (dIn false) := by
  refine ⟨_, op_in_seq, fun O H x y d e QD Q hO rx ry h k => ?_⟩
  obtain ⟨ds, h1, h2, h3, h4⟩ := h
  obtain ⟨q, xs, rfl, hs, rr⟩ := seq_rp ry h1
  exact ⟨_, _, rfl, hs, flat_sc rx h2, flat_all rr h3, k _ _ H (.refl H) (.bl _) (by rw [inV_rp rx h2 rr h3]; exact h4)⟩
theorem opd_notin : OpD X (compareOp .NotIn) (dIn true) := by
  refine ⟨_, op_notIn_seq, fun O H x y d e QD Q hO rx ry h k => ?_⟩
  obtain ⟨ds, h1, h2, h3, h4⟩ := h
  obtain ⟨q, xs, rfl, hs, rr⟩ := seq_rp ry h1
  exact ⟨_, _, rfl, hs, flat_sc rx h2, flat_all rr h3, k _ _ H (.refl H) (.bl _) (by rw [inV_rp rx h2 rr h3]; exact h4)⟩
theorem je_dict0 : JE X (.Dict [] [] pos) (dC (.dict [])) := by
  refine ⟨_, pe_dnewK, fun T ρ σ H QD Q r h q => ?_⟩
  intro l hl
  exact q _ _ _ _ (r.grow (Ex.new hl)) (.grow (Ex.new hl)) (.dct (hide_new (fun a => r.hdDom) hl) .nil rfl) h
def dRepB : List D → (D → Prop) → Prop
  | [.bool b] => fun Q => Q (.str (if b then "True" else "False"))
  | _ => fun _ => False
theorem calld_reprB : CallD X (.builtin "repr") dRepB := by
  refine ⟨fun xs H Q => ∃ b, xs = [V.bl b] ∧ Q (.str (if b then "True" else "False")) H, fun pins s σ H xs us Q I r h => ?_, fun O H vs ds QD Q hO r h k => ?_⟩
  · obtain ⟨b, rfl, q⟩ := h
    obtain ⟨u, rfl, ru⟩ := vals1 r
    cases ru
    exact PySem.P.repr_of_bool ⟨.str _, H, I.tok _, ⟨_, rfl⟩, q⟩
  · unfold dRepB at h
    split at h
    · obtain ⟨v, rfl, w⟩ := rp1 r
      cases w
      exact ⟨_, rfl, k _ _ H (.refl H) (.str _) h⟩
    · exact False.elim h
end
end Dn
set_option Elab.async false
set_option linter.all false
set_option maxRecDepth 100000
set_option autoImplicit false
set_option maxHeartbeats 4000000
namespace Dn
open PySem L2 Evl PySem.Spec PyProof.Rows
/-! ### what a def promises -/
/-- a def that changes nothing: S of the arguments' data and of what is wanted of the result -/
def spD (K : PySem.W.Frag) (n : Nat) (S : List D → (D → Prop) → Prop) : Sp := fun vs H Q _ => vs.length = n ∧ ∃ (T : Addr → Prop) (ds : List D) (QD : D → Prop), (∀ a, T a → H a ≠ none) ∧ RpAll K (hide T H) vs ds ∧ S ds QD ∧
  ∀ v d H', QD d → Ex H H' → Rp K (hide T H') v d → Q v H'
/-- a def that changes the list handed in first -/
def spM (K : PySem.W.Frag) (n : Nat) (S : List D → List D → (D → List D → Prop) → Prop) : Sp := fun vs H Q _ => vs.length = n ∧ ∃ (T : Addr → Prop) (l : Addr) (us : List V) (ws : List V) (ms : List D) (ds : List D) (QD : D → List D → Prop),
  vs = .ref l :: us ∧ (∀ a, T a → H a ≠ none) ∧ ¬ T l ∧ H l = some (.lst ws) ∧ RpAll K (hide (plus T l) H) ws ms ∧ RpAll K (hide (plus T l) H) us ds ∧ S ms ds QD ∧
  ∀ v d ms' ws' H', QD d ms' → (∀ a o, a ≠ l → H a = some o → H' a = some o) → H' l = some (.lst ws') → RpAll K (hide (plus T l) H') ws' ms' → Rp K (hide (plus T l) H') v d → Q v H'
section
variable {X : Cx} {a b c e : Expr} {fa fb fc : DE} {pos p : Pos} {es : List Expr} {x y : Str} {k : Nat} {f : Addr} {fd : FuncData} {ps : List Str} {n : Nat}
def dCallF (n : Nat) (S : List D → (D → Prop) → Prop) (g : DA) : DE := fun ρ Q => g ρ fun ds ρ1 => ds.length = n ∧ S ds fun z => Q z ρ1
theorem spD_of {K : PySem.W.Frag} {T : Addr → Prop} {ρ0 ρ : Env} {σ : L2.St} {H0 H : Hp} {vs : List V} {ds : List D} {S : List D → (D → Prop) → Prop} {QD : D → Env → Prop} {Q : VK} {E : XK} (r : RS K T ρ σ H) (q : Po ρ0 σ H0 ρ σ H) (rv : RpAll K (hide (Hd T ρ σ) H) vs ds) (hn : ds.length = n) (h : S ds fun z => QD z ρ)
    (k : ∀ d ρ' v H', RS K T ρ' σ H' → Po ρ0 σ H0 ρ' σ H' → Rp K (hide (Hd T ρ' σ) H') v d → QD d ρ' → Q v H') : spD K n S vs H Q E :=
  ⟨by rw [rv.length, hn], Hd T ρ σ, ds, _, fun a => r.hdDom, rv, h, fun v d H' hq e r2 => k d ρ v H' (r.grow e) (q.trans (.grow e)) r2 hq⟩
theorem je_call {S : List D → (D → Prop) → Prop} {g : DA} (F : FnOk X.prog X.w X.K X.mg X.base L2.CX0 k f fd ps (spD X.K n S)) (hr : Room k X.A) (hm : X.mg x = some (.ref f)) (hk : PySem.W.keepIn X.K (.ref f) = true) (hb : Binds X.K fd ps []) (ha : JA X (e :: es) g) (hg : Gl X x := by rfl)
    (hdb : (x == ("__debug__" : Str)) = false := by decide) (he : starEach (e :: es) X.env = (false, eval e X.env) :: starEach es X.env := by rfl) (hpl : (backTo pos (starEach es X.env)).any (·.1) = false := by rfl) : JE X (.Call (.Name x p) (e :: es) [] pos) (dCallF n S g) := by
  obtain ⟨t, pa, ka⟩ := ha.ex
  refine ⟨_, pe_call F hr hg hm hk hb .nil (E := fun _ _ _ => False) (fun _ _ _ _ _ _ _ h => h.elim) pa hdb he hpl, fun T ρ σ H QD Q r h q => ka T ρ σ H _ _ r h fun ds ρ1 vs H1 r1 p1 v1 h => ?_⟩
  rw [List.append_nil]
  exact spD_of r1 p1 v1 h.1 h.2 q
theorem je_call0 {S : List D → (D → Prop) → Prop} (F : FnOk X.prog X.w X.K X.mg X.base L2.CX0 k f fd ps (spD X.K n S)) (hr : Room k X.A) (hm : X.mg x = some (.ref f)) (hk : PySem.W.keepIn X.K (.ref f) = true) (hb : Binds X.K fd ps []) (hg : Gl X x := by rfl)
    (hdb : (x == ("__debug__" : Str)) = false := by decide) : JE X (.Call (.Name x p) [] [] pos) (dCallF n S aNil) := by
  refine ⟨_, pe_call0 F hr hg hm hk hb .nil (E := fun _ _ _ => False) (fun _ _ _ _ _ _ _ h => h.elim) hdb, fun T ρ σ H QD Q r h q => ?_⟩
  exact spD_of (E := fun _ _ _ => False) r .refl .nil h.1 h.2 q
def dCallM (i n : Nat) (S : List D → List D → (D → List D → Prop) → Prop) (g : DA) : DE := fun ρ Q => (atO ρ i).isSome = true ∧ g ρ fun ds ρ1 => ds.length + 1 = n ∧ ∃ ms, atO ρ1 i = some ms ∧ S ms ds fun d ms' => Q d (setO ρ1 i ms')
theorem plus_hd {T : Addr → Prop} {ρ : Env} {σ : L2.St} {l a : Addr} {i : Nat} {m : MO} (hm : ρ[i]? = some (some (SV.ow m))) (hl : σ[i]? = some (some (V.ref l))) (h : plus (fun a => Hd T ρ σ a ∧ a ≠ l) l a) : Hd T ρ σ a := by
  rcases h with h | h
  · subst h; exact .inr ⟨i, m, hm, hl⟩
  · exact h.1
theorem hd_plus {T : Addr → Prop} {ρ : Env} {σ : L2.St} {l a : Addr} (h : Hd T ρ σ a) : plus (fun a => Hd T ρ σ a ∧ a ≠ l) l a := by
  by_cases e : a = l
  · exact .inl e
  · exact .inr ⟨h, e⟩
theorem je_callM {i : Nat} {px : Pos} {S : List D → List D → (D → List D → Prop) → Prop} {g : DA} (F : FnOk X.prog X.w X.K X.mg X.base L2.CX0 k f fd ps (spM X.K n S)) (hr : Room k X.A) (hm : X.mg x = some (.ref f)) (hk : PySem.W.keepIn X.K (.ref f) = true) (hb : Binds X.K fd ps [])
    (hN : X.N[i]? = some y) (hv : Vis X.env.scope y) (ha : JA X es g) (hg : Gl X x := by rfl) (hd : (y == ("__debug__" : Str)) = false := by decide) (hcd : (y == ("__classdict__" : Str)) = false := by decide)
    (hdb : (x == ("__debug__" : Str)) = false := by decide) (he : starEach (Expr.Name y px :: es) X.env = (false, eval (Expr.Name y px) X.env) :: starEach es X.env := by rfl) (hpl : (backTo pos (starEach es X.env)).any (·.1) = false := by rfl) : JE X (.Call (.Name x p) (.Name y px :: es) [] pos) (dCallM i n S g) := by
  obtain ⟨t, pa, ka⟩ := ha.ex
  refine ⟨_, pe_call F hr hg hm hk hb .nil (E := fun _ _ _ => False) (fun _ _ _ _ _ _ _ h => h.elim) (pa_cons (pe_var hN hv hd hcd) pa he) hdb he hpl, fun T ρ σ H QD Q r h q => ?_⟩
  obtain ⟨h0, h⟩ := h
  obtain ⟨ds0, h0⟩ := Option.isSome_iff_exists.mp h0
  obtain ⟨m, l, vs, _, hl, _, _⟩ := r.atO h0
  refine ⟨_, hl, ka T ρ σ H _ _ r h fun ds ρ1 us H1 r1 p1 v1 h => ?_⟩
  obtain ⟨hn, ms, h1, h⟩ := h
  obtain ⟨m', l', ws, hm', hl', ho', hr'⟩ := r1.atO h1
  rw [hl] at hl'; cases hl'
  rw [List.append_nil]
  have e1 : Ex (hide (Hd T ρ1 σ) H1) (hide (plus (fun a => Hd T ρ1 σ a ∧ a ≠ l) l) H1) := hide_sub fun a w => plus_hd hm' hl w
  refine ⟨by simp [v1.length, hn], fun a => Hd T ρ1 σ a ∧ a ≠ l, l, us, ws, ms, ds, _, rfl, fun a w => r1.hdDom w.1, fun w => w.2 rfl, ho', hr'.mono e1, v1.mono e1, h, fun v d ms' ws' H' hq kp hl2 rm rv => ?_⟩
  -- the heap behind the call, as if the list had been written at once
  have e2 : Ex (hide (plus (fun a => Hd T ρ1 σ a ∧ a ≠ l) l) H') (hide (Hd T ρ1 σ) (upd H' l (.lst ws'))) := fun a o w => by
    obtain ⟨w1, w2⟩ := hide_some.1 w
    exact hide_some.2 ⟨fun z => w1 (hd_plus z), by rw [upd_ne (fun z => w1 (.inl z))]; exact w2⟩
  have back : upd H' l (.lst ws') = H' := by
    funext a
    by_cases z : a = l
    · subst z; rw [upd_same, hl2]
    · rw [upd_ne z]
  -- first the rest of the heap grows, then the list is written
  let Hm : Hp := fun a => if a = l then some (.lst ws) else H' a
  have eM : Ex H1 Hm := fun a o w => by
    show (if a = l then _ else _) = _
    by_cases z : a = l
    · subst z; rw [if_pos rfl, ← ho', w]
    · rw [if_neg z]; exact kp a o z w
  have rM := r1.grow eM
  have uM : upd Hm l (.lst ws') = H' := by
    funext a
    by_cases z : a = l
    · subst z; rw [upd_same, hl2]
    · rw [upd_ne z]; show (if a = l then _ else _) = _; rw [if_neg z]
  have e3 : Ex (hide (plus (fun a => Hd T ρ1 σ a ∧ a ≠ l) l) H') (hide (Hd T ρ1 σ) Hm) := fun a o w => by
    obtain ⟨w1, w2⟩ := hide_some.1 w
    refine hide_some.2 ⟨fun z => w1 (hd_plus z), ?_⟩
    show (if a = l then _ else _) = _
    rw [if_neg (fun z => w1 (.inl z))]; exact w2
  obtain ⟨r3, q3⟩ := rM.setO hm' hl (rm.mono e3)
  rw [uM] at r3 q3
  have pM : Po ρ σ H ρ1 σ Hm := p1.trans (.grow eM)
  exact q d _ v H' r3 (pM.trans q3) ((rv.mono e3).mono q3.fz) hq

/-! ### a def keeps its promise -/
def envD (ds : List D) (m : Nat) : Env := ds.map (fun d => some (SV.im d)) ++ List.replicate m none
theorem envD_get {ds : List D} {m i : Nat} {sv : SV} (h : (envD ds m)[i]? = some (some sv)) : ∃ d, ds[i]? = some d ∧ sv = .im d := by
  unfold envD at h
  rw [List.getElem?_append] at h
  split at h
  · rw [List.getElem?_map] at h
    obtain ⟨d, h1, h2⟩ := Option.map_eq_some_iff.mp h
    cases h2
    exact ⟨d, h1, rfl⟩
  · rw [List.getElem?_replicate] at h
    split at h <;> cases h
theorem envD_len {ds : List D} {m : Nat} : (envD ds m).length = ds.length + m := by unfold envD; simp
theorem start_get {N : List Str} {vs : List V} {i : Nat} {v : V} (h : vs[i]? = some v) : (L2.start N vs)[i]? = some (some v) := by
  unfold L2.start
  have hi := (List.getElem?_eq_some_iff.mp h).1
  rw [List.getElem?_append_left (by simp; exact hi), List.getElem?_map, h]
  rfl
theorem fn_D {P : Program} {w : World} {K : PySem.W.Frag} {mg : Str → Option Value} {base : Heap} {name qual : Str} {params : Arguments} {body : List Stmt} {scope : Scope} {N : List Str} {S : List D → (D → Prop) → Prop} {g : DS} (F : FunD K name qual params body scope [] [] f fd) (Sc : FnScope N ps scope)
    (hb : ∀ (cdv : Value) (A : Around) (outer : List PySem.Env) (s : Shared) (H : Hp) (E : XK), Room k (A.deeper (envOfC qual scope s.heap.objs.size f cdv)) → JSs (cxOf L2.CX0 P w K mg base N qual scope f cdv A outer s H E).nox body g)
    (hS : ∀ (ds : List D) (Q : D → Prop), ds.length = ps.length → S ds Q → g { nx := fun _ => Q .none, rt := fun d _ => Q d } (envD ds (N.length - ps.length))) : FnOk P w K mg base L2.CX0 (k + 1) f fd ps (spD K ps.length S) := by
  refine F.ok Sc (fun vs H Q E h => h.1) (fun cdv A outer s H vs Q E hr h => ?_)
  obtain ⟨t, pt, kt⟩ := (hb cdv A outer s H E hr).ex
  refine ⟨t, PSs.nox pt, ?_⟩
  obtain ⟨hl, T, ds, QD, hT, rv, hs, hq⟩ := h
  have hl2 : ds.length = ps.length := by rw [← rv.length, hl]
  have no : ∀ a, ¬ Own (envD ds (N.length - ps.length)) (L2.start N vs) a := fun a ⟨i, m, h1, _⟩ => by
    obtain ⟨d, _, z⟩ := envD_get h1
    cases z
  have e0 : Ex (hide T H) (hide (Hd T (envD ds (N.length - ps.length)) (L2.start N vs)) H) := hide_sub fun a w => w.elim id fun w => (no a w).elim
  have r0 : RS K T (envD ds (N.length - ps.length)) (L2.start N vs) H := by
    refine ⟨?_, fun i d h => ?_, fun i m h => ?_, fun i j m m' a h1 _ _ _ => ?_, fun a _ => no a, hT, fun i q m a h1 _ => ?_⟩
    · rw [envD_len]; unfold L2.start; simp [hl, hl2]
    · obtain ⟨d', h1, z⟩ := envD_get h
      cases z
      obtain ⟨v, h2, h3⟩ := rv.get h1
      exact ⟨v, start_get h2, h3.mono e0⟩
    · obtain ⟨d, _, z⟩ := envD_get h; cases z
    · obtain ⟨d, _, z⟩ := envD_get h1; cases z
    · obtain ⟨d, _, z⟩ := envD_get h1; cases z
  have kp : ∀ {ρ' : Env} {σ' : L2.St} {H' : Hp}, Po (envD ds (N.length - ps.length)) (L2.start N vs) H ρ' σ' H' → Ex H H' := fun q a o h => q.keep a o (no a) h
  refine kt T _ _ H _ _ r0 (hS ds QD hl2 hs) ⟨fun ρ' σ' H' r q h => hq .non .none H' h (kp q) .non, fun d ρ' σ' v H' r q rv h => hq v d H' h (kp q) (rv.mono (hide_sub fun a w => .inl w)), fun _ _ _ _ _ h => h.elim, fun _ _ _ _ _ h => h.elim⟩
theorem fn_M {P : Program} {w : World} {K : PySem.W.Frag} {mg : Str → Option Value} {base : Heap} {name qual : Str} {params : Arguments} {body : List Stmt} {scope : Scope} {N : List Str} {S : List D → List D → (D → List D → Prop) → Prop} {g : DS} (F : FunD K name qual params body scope [] [] f fd) (Sc : FnScope N ps scope)
    (hb : ∀ (cdv : Value) (A : Around) (outer : List PySem.Env) (s : Shared) (H : Hp) (E : XK), Room k (A.deeper (envOfC qual scope s.heap.objs.size f cdv)) → JSs (cxOf L2.CX0 P w K mg base N qual scope f cdv A outer s H E).nox body g)
    (hS : ∀ (l : Addr) (ms ds : List D) (Q : D → List D → Prop), ds.length + 1 = ps.length → S ms ds Q → g { nx := fun ρ => ∃ ms', ρ[0]? = some (some (.ow (.par l (.lst ms')))) ∧ Q .none ms', rt := fun d ρ => ∃ ms', ρ[0]? = some (some (.ow (.par l (.lst ms')))) ∧ Q d ms' } (some (.ow (.par l (.lst ms))) :: envD ds (N.length - ps.length))) :
    FnOk P w K mg base L2.CX0 (k + 1) f fd ps (spM K ps.length S) := by
  refine F.ok Sc (fun vs H Q E h => h.1) (fun cdv A outer s H vs Q E hr h => ?_)
  obtain ⟨t, pt, kt⟩ := (hb cdv A outer s H E hr).ex
  refine ⟨t, PSs.nox pt, ?_⟩
  obtain ⟨hl, T, l, us, ws, ms, ds, QD, rfl, hT, nT, ho, rm, rv, hs, hq⟩ := h
  have hl1 : us.length + 1 = ps.length := by simpa using hl
  have hl2 : ds.length + 1 = ps.length := by rw [← rv.length, hl1]
  generalize hρ : (some (SV.ow (.par l (.lst ms))) :: envD ds (N.length - ps.length) : Env) = ρ0
  have g0 : ∀ (i : Nat) (sv : SV), ρ0[i]? = some (some sv) → (i = 0 ∧ sv = .ow (.par l (.lst ms))) ∨ ∃ j d, i = j + 1 ∧ ds[j]? = some d ∧ sv = .im d := fun i sv h => by
    subst hρ
    cases i with
    | zero => simp at h; exact .inl ⟨rfl, h.symm⟩
    | succ j =>
      obtain ⟨d, h1, h2⟩ := envD_get (show (envD ds (N.length - ps.length))[j]? = _ by simpa using h)
      exact .inr ⟨j, d, rfl, h1, h2⟩
  have s0 : (L2.start N (.ref l :: us))[0]? = some (some (V.ref l)) := start_get rfl
  have own : ∀ a, Own ρ0 (L2.start N (.ref l :: us)) a → a = l := fun a ⟨i, m, h1, h2⟩ => by
    rcases g0 i _ h1 with ⟨rfl, _⟩ | ⟨_, _, _, _, z⟩
    · rw [s0] at h2; cases h2; rfl
    · cases z
  have e0 : Ex (hide (plus T l) H) (hide (Hd T ρ0 (L2.start N (.ref l :: us))) H) := hide_sub fun a w => w.elim .inr fun w => .inl (own a w)
  have r0 : RS K T ρ0 (L2.start N (.ref l :: us)) H := by
    refine ⟨?_, fun i d h => ?_, fun i m h => ?_, fun i j m m' a h1 h2 _ _ => ?_, fun a t w => ?_, hT, fun i q m a h1 h2 => ?_⟩
    · rw [← hρ]; unfold L2.start; simp [envD_len, ← hl2, rv.length]
    · rcases g0 i _ h with ⟨_, z⟩ | ⟨j, d', rfl, h1, z⟩
      · cases z
      · cases z
        obtain ⟨v, h2, h3⟩ := rv.get h1
        exact ⟨v, start_get (by simpa using h2), h3.mono e0⟩
    · rcases g0 i _ h with ⟨rfl, z⟩ | ⟨_, _, _, _, z⟩
      · cases z
        exact ⟨l, _, s0, ho, by unfold RpO; exact RpAll.mono e0 rm⟩
      · cases z
    · rcases g0 i _ h1 with ⟨rfl, _⟩ | ⟨_, _, _, _, z⟩
      · rcases g0 j _ h2 with ⟨rfl, _⟩ | ⟨_, _, _, _, z⟩
        · rfl
        · cases z
      · cases z
    · rw [own a w] at t; exact nT t
    · rcases g0 i _ h1 with ⟨rfl, z⟩ | ⟨_, _, _, _, z⟩
      · cases z; rw [s0] at h2; cases h2; rfl
      · cases z
  have kp : ∀ {ρ' : Env} {σ' : L2.St} {H' : Hp}, Po ρ0 (L2.start N (.ref l :: us)) H ρ' σ' H' → ∀ a o, a ≠ l → H a = some o → H' a = some o := fun q a o ne h => q.keep a o (fun w => ne (own a w)) h
  have fin : ∀ {ρ' : Env} {σ' : L2.St} {H' : Hp} {ms' : List D}, RS K T ρ' σ' H' → ρ'[0]? = some (some (SV.ow (.par l (.lst ms')))) → ∃ ws', H' l = some (.lst ws') ∧ RpAll K (hide (plus T l) H') ws' ms' ∧ Ex (hide (Hd T ρ' σ') H') (hide (plus T l) H') := fun {ρ' σ' H' ms'} r h => by
    obtain ⟨a, o, h1, h2, h3⟩ := r.ow 0 _ h
    obtain rfl := r.tag 0 _ _ a h h1
    obtain ⟨ws', rfl, h4⟩ := getL_rp (ds := ms') h3 rfl
    have e : Ex (hide (Hd T ρ' σ') H') (hide (plus T a) H') := hide_sub fun b w => w.elim (fun z => .inr ⟨0, _, h, by rw [z]; exact h1⟩) .inl
    exact ⟨ws', h2, h4.mono e, e⟩
  rw [← hρ] at *
  refine kt T _ _ H _ _ r0 (hS l ms ds QD hl2 hs) ⟨fun ρ' σ' H' r q h => ?_, fun d ρ' σ' v H' r q rv h => ?_, fun _ _ _ _ _ h => h.elim, fun _ _ _ _ _ h => h.elim⟩
  · obtain ⟨ms', h1, h2⟩ := h
    obtain ⟨ws', a1, a2, _⟩ := fin r h1
    exact hq .non .none ms' ws' H' h2 (kp q) a1 a2 .non
  · obtain ⟨ms', h1, h2⟩ := h
    obtain ⟨ws', a1, a2, a3⟩ := fin r h1
    exact hq v d ms' ws' H' h2 (kp q) a1 a2 (rv.mono a3)
end
end Dn
set_option Elab.async false
set_option linter.all false
set_option maxRecDepth 100000
set_option autoImplicit false
set_option maxHeartbeats 4000000
namespace Dn
open PySem L2 Evl PySem.Spec PyProof.Rows
section
variable {X : Cx} {a b c e : Expr} {fa fb fc : DE} {pos p : Pos} {es : List Expr} {x y : Str} {k : Nat} {f : Addr} {fd : FuncData} {ps : List Str} {n : Nat}
/-! ### walks over a list or a tuple, whichever it is -/
def iSq0 (K : PySem.W.Frag) (tl : TE) : TI := fun σ H R => tl σ H fun x H1 => ∃ a, x = .ref a ∧ (((∃ xs, SqL K H1 a xs) ∧ R (Itl K a) H1) ∨ ((∃ xs, SqT K H1 a xs) ∧ R (Itt K a) H1))
theorem pi_sq {tg l : Expr} {tl : TE} (hl : PE X l tl) : PI X tg l (iSq0 X.K tl) := by
  refine ⟨fun pins s σ H R I h => ?_⟩
  refine thn (hl.run pins s σ H _ I h) fun v s1 ⟨x, H1, I1, r1, q1⟩ => ?_
  obtain ⟨q, rfl, h⟩ := q1
  cases r1
  have fp : ∀ (o : Obj), ∀ bb ∈ [s1.heap.objs.size], FpOk X pins H1 bb := fun o bb hb => by
    have : bb = s1.heap.objs.size := by simpa using hb
    subst this
    exact I1.fpOk (Nat.le_refl _) (I1.hok.fresh (Nat.le_refl _))
  rcases h with ⟨⟨xs, hq⟩, h⟩ | ⟨⟨xs, hq⟩, h⟩
  · obtain ⟨its, rv, isL, hz⟩ := I1.list hq
    refine wpAny_pyIter_list isL.isList ?_
    exact ⟨s1.heap.objs.size, [s1.heap.objs.size], _, _, H1, rfl, I1.kept (t' := s1.toks) fun b o e => Heap.get?_push_of_some _ e, turn_list q _, ⟨_, Heap.get?_push_size _ rfl, rfl, rfl⟩, fp default, h⟩
  · obtain ⟨its, rv, isT, hz⟩ := I1.tuple hq
    refine wpAny_pyIter_tuple (show s1.heap.IsTuple q its.toArray from isT) ?_
    exact ⟨s1.heap.objs.size, [s1.heap.objs.size], _, _, H1, rfl, I1.kept (t' := s1.toks) fun b o e => Heap.get?_push_of_some _ e, turn_tuple q _, ⟨_, Heap.get?_push_size _ rfl, rfl, rfl⟩, fp default, h⟩
def iSq (f : DE) : DL := fun ρ Q => f ρ fun d ρ1 => ∃ ds, seqD d = some ds ∧ Q ds ρ1
theorem ji_sq {tg : Expr} (ha : JE X a fa) : JI X tg a (iSq fa) := by
  obtain ⟨t, pt, kt⟩ := ha.ex
  refine ⟨_, pi_sq pt, fun T ρ σ H QD R r h q => kt T ρ σ H _ _ r h fun d ρ1 v H1 r1 p1 v1 h => ?_⟩
  obtain ⟨ds, e, h⟩ := h
  cases v1
  case dct h1 h2 h3 => rw [h3, seq_dk] at e; cases e
  all_goals simp only [seqD, Option.some.injEq, reduceCtorEq] at e
  · subst e
    rename_i hp rr
    exact ⟨_, rfl, .inl ⟨⟨_, .inl (.inl (at_of hp))⟩, q _ _ _ _ r1 p1 (it_list (.inl (.inl hp)) rr) h⟩⟩
  · subst e
    rename_i hp rr
    exact ⟨_, rfl, .inr ⟨⟨_, sqt_of hp⟩, q _ _ _ _ r1 p1 (it_tup (lt_of hp) rr) h⟩⟩
  · subst e
    rename_i hp rr
    exact ⟨_, rfl, .inl ⟨⟨_, sql_of hp⟩, q _ _ _ _ r1 p1 (it_list hp rr) h⟩⟩
/-- a def that hands back a new list -/
def spL (K : PySem.W.Frag) (n : Nat) (S : List D → (List D → Prop) → Prop) : Sp := fun vs H Q _ => vs.length = n ∧ ∃ (T : Addr → Prop) (ds : List D) (QD : List D → Prop), (∀ a, T a → H a ≠ none) ∧ RpAll K (hide T H) vs ds ∧ S ds QD ∧
  ∀ l us es H', H l = none → H' l = some (.lst us) → QD es → Ex H H' → RpAll K (hide (plus T l) H') us es → Q (.ref l) H'
def lCall (n : Nat) (S : List D → (List D → Prop) → Prop) (g : DA) : DL := fun ρ Q => g ρ fun ds ρ1 => ds.length = n ∧ S ds fun es => Q es ρ1
theorem jl_call {S : List D → (List D → Prop) → Prop} {g : DA} (F : FnOk X.prog X.w X.K X.mg X.base L2.CX0 k f fd ps (spL X.K n S)) (hr : Room k X.A) (hm : X.mg x = some (.ref f)) (hk : PySem.W.keepIn X.K (.ref f) = true) (hb : Binds X.K fd ps []) (ha : JA X (e :: es) g) (hg : Gl X x := by rfl)
    (hdb : (x == ("__debug__" : Str)) = false := by decide) (he : starEach (e :: es) X.env = (false, eval e X.env) :: starEach es X.env := by rfl) (hpl : (backTo pos (starEach es X.env)).any (·.1) = false := by rfl) : JL X (.Call (.Name x p) (e :: es) [] pos) (lCall n S g) := by
  obtain ⟨t, pa, ka⟩ := ha.ex
  refine ⟨_, pe_call F hr hg hm hk hb .nil (E := fun _ _ _ => False) (fun _ _ _ _ _ _ _ h => h.elim) pa hdb he hpl, fun T ρ σ H QD Q r h q => ka T ρ σ H _ _ r h fun ds ρ1 vs H1 r1 p1 v1 h => ?_⟩
  rw [List.append_nil]
  refine ⟨by rw [v1.length, h.1], Hd T ρ1 σ, ds, _, fun a => r1.hdDom, v1, h.2, fun l us es H' hl hl' hq e rr => ?_⟩
  have r2 : RS X.K (plus T l) ρ1 σ H' := by
    have r3 := (r1.laid (o := .lst us) hl)
    refine r3.grow fun a o w => ?_
    by_cases z : a = l
    · subst z; rw [upd_same] at w; rw [hl', w]
    · rw [upd_ne z] at w; exact e a o w
  refine q es ρ1 l us H' (none_back p1 hl) hl' r2 (rr.mono (hide_sub fun a w => ?_)) (p1.trans (.grow e)) hq
  rcases w with (w | w) | w
  · exact .inl w
  · exact .inr (.inl w)
  · exact .inr (.inr w)
structure JSL (X : Cx) (st : List Stmt) (f : (List D → Prop) → Env → Prop) : Prop where
  ex : ∃ t, PSs X st t ∧ ∀ (T : Addr → Prop) (ρ : Env) (σ : L2.St) (H : Hp) (QD : List D → Prop) (D : Ends), RS X.K T ρ σ H → f QD ρ →
    (∀ es ρ' σ' l us H', H l = none → H' l = some (.lst us) → RS X.K (plus T l) ρ' σ' H' → RpAll X.K (hide (Hd (plus T l) ρ' σ') H') us es → Po ρ σ H ρ' σ' H' → QD es → D.rt (.ref l) H') → t D σ H
theorem jsl_ret {g : DL} (ha : JL X e g) : JSL X [.Return (some e) pos] (fun Q ρ => g ρ fun es _ => Q es) := by
  obtain ⟨t, pt, kt⟩ := ha.ex
  refine ⟨_, pss_cons (ps_ret pt) pss_nil, fun T ρ σ H QD D r h k => kt T ρ σ H _ _ r h fun es ρ1 l us H1 n s r1 v1 p1 h => k es ρ1 σ l us H1 n s r1 v1 p1 h⟩
theorem jsl_cons {st : Stmt} {sts : List Stmt} {g : DS} {f : (List D → Prop) → Env → Prop} (h1 : JS X st g) (h2 : JSL X sts f) : JSL X (st :: sts) (fun Q ρ => g { nx := f Q, rt := fun _ _ => False } ρ) := by
  obtain ⟨t1, p1, k1⟩ := h1.ex
  obtain ⟨t2, p2, k2⟩ := h2.ex
  refine ⟨_, pss_cons p1 p2, fun T ρ σ H QD D r h k => k1 T ρ σ H _ _ r h ⟨fun ρ1 σ1 H1 r1 q1 h => k2 T ρ1 σ1 H1 _ _ r1 h fun es ρ' σ' l us H' n s r' v' p' hq => k es ρ' σ' l us H' (none_back q1 n) s r' v' (q1.trans p') hq, fun _ _ _ _ _ _ _ _ h => h.elim, fun _ _ _ _ _ h => h.elim, fun _ _ _ _ _ h => h.elim⟩⟩
/-! ### a def of the text and what it promises -/
def Ok (P : Program) (w : World) (K : PySem.W.Frag) (mg : Str → Option Value) (base : Heap) (x : Str) (ps : List Str) (k : Nat) (sp : Sp) : Prop :=
  ∃ f fd, FnOk P w K mg base L2.CX0 k f fd ps sp ∧ mg x = some (.ref f) ∧ PySem.W.keepIn K (.ref f) = true ∧ Binds K fd ps []
theorem je_fn {S : List D → (D → Prop) → Prop} {g : DA} (O : Ok X.prog X.w X.K X.mg X.base x ps k (spD X.K n S)) (hr : Room k X.A) (ha : JA X (e :: es) g) (hg : Gl X x := by rfl)
    (hdb : (x == ("__debug__" : Str)) = false := by decide) (he : starEach (e :: es) X.env = (false, eval e X.env) :: starEach es X.env := by rfl) (hpl : (backTo pos (starEach es X.env)).any (·.1) = false := by rfl) : JE X (.Call (.Name x p) (e :: es) [] pos) (dCallF n S g) := by
  obtain ⟨f, fd, F, hm, hk, hb⟩ := O
  exact je_call F hr hm hk hb ha hg hdb he hpl
theorem je_fn0 {S : List D → (D → Prop) → Prop} (O : Ok X.prog X.w X.K X.mg X.base x ps k (spD X.K n S)) (hr : Room k X.A) (hg : Gl X x := by rfl) (hdb : (x == ("__debug__" : Str)) = false := by decide) : JE X (.Call (.Name x p) [] [] pos) (dCallF n S aNil) := by
  obtain ⟨f, fd, F, hm, hk, hb⟩ := O
  exact je_call0 F hr hm hk hb hg hdb
theorem jl_fn {S : List D → (List D → Prop) → Prop} {g : DA} (O : Ok X.prog X.w X.K X.mg X.base x ps k (spL X.K n S)) (hr : Room k X.A) (ha : JA X (e :: es) g) (hg : Gl X x := by rfl)
    (hdb : (x == ("__debug__" : Str)) = false := by decide) (he : starEach (e :: es) X.env = (false, eval e X.env) :: starEach es X.env := by rfl) (hpl : (backTo pos (starEach es X.env)).any (·.1) = false := by rfl) : JL X (.Call (.Name x p) (e :: es) [] pos) (lCall n S g) := by
  obtain ⟨f, fd, F, hm, hk, hb⟩ := O
  exact jl_call F hr hm hk hb ha hg hdb he hpl
theorem je_fnM {i : Nat} {px : Pos} {S : List D → List D → (D → List D → Prop) → Prop} {g : DA} (O : Ok X.prog X.w X.K X.mg X.base x ps k (spM X.K n S)) (hr : Room k X.A) (hN : X.N[i]? = some y) (hv : Vis X.env.scope y) (ha : JA X es g) (hg : Gl X x := by rfl) (hd : (y == ("__debug__" : Str)) = false := by decide) (hcd : (y == ("__classdict__" : Str)) = false := by decide)
    (hdb : (x == ("__debug__" : Str)) = false := by decide) (he : starEach (Expr.Name y px :: es) X.env = (false, eval (Expr.Name y px) X.env) :: starEach es X.env := by rfl) (hpl : (backTo pos (starEach es X.env)).any (·.1) = false := by rfl) : JE X (.Call (.Name x p) (.Name y px :: es) [] pos) (dCallM i n S g) := by
  obtain ⟨f, fd, F, hm, hk, hb⟩ := O
  exact je_callM F hr hm hk hb hN hv ha hg hd hcd hdb he hpl
/-- a def of the text: its function object, its name -/
def Is (K : PySem.W.Frag) (mg : Str → Option Value) (x : Str) (st : Stmt) : Prop := ∃ f fd, FunD K x x (defArgs st) (defBody st) (defScope st) [] [] f fd ∧ mg x = some (.ref f)
abbrev BindsAs (x : Str) (st : Stmt) (ps : List Str) : Prop := ∀ (kV doc pm : Value) (an : Option Addr) (cdv ct : Value) (us : List Value), us.length = ps.length → bindArgs (PySem.W.fnOf x x (defArgs st) (defBody st) (defScope st) .none kV doc pm an cdv ct) ⟨us, []⟩ = pure (ps.zip us)
/-- the contexts in which a def's body runs -/
abbrev BodyCx (P : Program) (w : World) (K : PySem.W.Frag) (mg : Str → Option Value) (base : Heap) (x : Str) (st : Stmt) (N : List Str) (k : Nat) (J : Cx → Prop) : Prop :=
  ∀ (f : Addr) (cdv : Value) (A : Around) (outer : List PySem.Env) (s : Shared) (H : Hp) (E : XK), Room k (A.deeper (envOfC x (defScope st) s.heap.objs.size f cdv)) → J (cxOf L2.CX0 P w K mg base N x (defScope st) f cdv A outer s H E).nox
section
variable {P : Program} {w : World} {K : PySem.W.Frag} {mg : Str → Option Value} {base : Heap} {st : Stmt} {N : List Str}
theorem ok_D {S : List D → (D → Prop) → Prop} {g : DS} (F : Is K mg x st) (Sc : FnScope N ps (defScope st)) (bs : BindsAs x st ps) (hb : BodyCx P w K mg base x st N k fun X => JSs X (defBody st) g)
    (hS : ∀ (ds : List D) (Q : D → Prop), ds.length = ps.length → S ds Q → g { nx := fun _ => Q .none, rt := fun d _ => Q d } (envD ds (N.length - ps.length))) : Ok P w K mg base x ps (k + 1) (spD K ps.length S) := by
  obtain ⟨f, fd, F, hm⟩ := F
  exact ⟨f, fd, fn_D F Sc (fun cdv A outer s H E hr => hb f cdv A outer s H E hr) hS, hm, F.kp, F.bindsN bs⟩
theorem ok_M {S : List D → List D → (D → List D → Prop) → Prop} {g : DS} (F : Is K mg x st) (Sc : FnScope N ps (defScope st)) (bs : BindsAs x st ps) (hb : BodyCx P w K mg base x st N k fun X => JSs X (defBody st) g)
    (hS : ∀ (l : Addr) (ms ds : List D) (Q : D → List D → Prop), ds.length + 1 = ps.length → S ms ds Q → g { nx := fun ρ => ∃ ms', ρ[0]? = some (some (.ow (.par l (.lst ms')))) ∧ Q .none ms', rt := fun d ρ => ∃ ms', ρ[0]? = some (some (.ow (.par l (.lst ms')))) ∧ Q d ms' } (some (.ow (.par l (.lst ms))) :: envD ds (N.length - ps.length))) :
    Ok P w K mg base x ps (k + 1) (spM K ps.length S) := by
  obtain ⟨f, fd, F, hm⟩ := F
  exact ⟨f, fd, fn_M F Sc (fun cdv A outer s H E hr => hb f cdv A outer s H E hr) hS, hm, F.kp, F.bindsN bs⟩
theorem envD_rs {T : Addr → Prop} {H : Hp} {vs : List V} {ds : List D} {m : Nat} (hl : vs.length + m = N.length) (hT : ∀ a, T a → H a ≠ none) (rv : RpAll K (hide T H) vs ds) : RS K T (envD ds m) (L2.start N vs) H ∧ ∀ a, ¬ Own (envD ds m) (L2.start N vs) a := by
  have no : ∀ a, ¬ Own (envD ds m) (L2.start N vs) a := fun a ⟨i, mm, h1, _⟩ => by
    obtain ⟨d, _, z⟩ := envD_get h1
    cases z
  have e0 : Ex (hide T H) (hide (Hd T (envD ds m) (L2.start N vs)) H) := hide_sub fun a w => w.elim id fun w => (no a w).elim
  refine ⟨⟨?_, fun i d h => ?_, fun i m h => ?_, fun i j m m' a h1 _ _ _ => ?_, fun a _ => no a, hT, fun i q m a h1 _ => ?_⟩, no⟩
  · rw [envD_len]; unfold L2.start; simp [rv.length] at hl ⊢; omega
  · obtain ⟨d', h1, z⟩ := envD_get h
    cases z
    obtain ⟨v, h2, h3⟩ := rv.get h1
    exact ⟨v, start_get h2, h3.mono e0⟩
  · obtain ⟨d, _, z⟩ := envD_get h; cases z
  · obtain ⟨d, _, z⟩ := envD_get h1; cases z
  · obtain ⟨d, _, z⟩ := envD_get h1; cases z
theorem ok_L {S : List D → (List D → Prop) → Prop} {g : (List D → Prop) → Env → Prop} (F : Is K mg x st) (Sc : FnScope N ps (defScope st)) (bs : BindsAs x st ps) (hb : BodyCx P w K mg base x st N k fun X => JSL X (defBody st) g)
    (hS : ∀ (ds : List D) (Q : List D → Prop), ds.length = ps.length → S ds Q → g Q (envD ds (N.length - ps.length))) : Ok P w K mg base x ps (k + 1) (spL K ps.length S) := by
  obtain ⟨f, fd, F, hm⟩ := F
  refine ⟨f, fd, ?_, hm, F.kp, F.bindsN bs⟩
  refine F.ok Sc (fun vs H Q E h => h.1) (fun cdv A outer s H vs Q E hr h => ?_)
  obtain ⟨t, pt, kt⟩ := (hb f cdv A outer s H E hr).ex
  refine ⟨t, PSs.nox pt, ?_⟩
  obtain ⟨hl, T, ds, QD, hT, rv, hs, hq⟩ := h
  have hl2 : ds.length = ps.length := by rw [← rv.length, hl]
  have hN : ps.length ≤ N.length := by have := congrArg List.length Sc.pre; rw [List.length_take] at this; omega
  obtain ⟨r0, no⟩ := envD_rs (m := N.length - ps.length) (N := N) (by omega) hT rv
  refine kt T _ _ H _ _ r0 (hS ds QD hl2 hs) fun es ρ' σ' l us H' n s r' v' p' h => ?_
  exact hq l us es H' n s h (fun a o w => p'.keep a o (no a) w) (v'.mono (hide_sub fun a w => .inl w))
end
end
end Dn
set_option Elab.async false
set_option linter.all false
set_option maxRecDepth 100000
set_option autoImplicit false
set_option maxHeartbeats 4000000
namespace Dn
open PySem L2 Evl PySem.Spec PyProof.Rows
section
variable {X : Cx} {a b c e : Expr} {fa fb fc : DE} {pos p : Pos} {es : List Expr} {x y : Str}
theorem je_v (i : Nat) (hN : X.N[i]? = some x := by rfl) (hv : Vis X.env.scope x := by first | exact Or.inl rfl | exact Or.inr (Or.inl rfl) | exact Or.inr (Or.inr rfl)) (hd : (x == ("__debug__" : Str)) = false := by decide) (hcd : (x == ("__classdict__" : Str)) = false := by decide) : JE X (.Name x pos) (dVar i) := je_var hN hv hd hcd
theorem je_vF (i : Nat) (hN : X.N[i]? = some x := by rfl) (hv : Vis X.env.scope x := by first | exact Or.inl rfl | exact Or.inr (Or.inl rfl) | exact Or.inr (Or.inr rfl)) (hd : (x == ("__debug__" : Str)) = false := by decide) (hcd : (x == ("__classdict__" : Str)) = false := by decide) : JE X (.Name x pos) (dVarF i) := je_varF hN hv hd hcd
theorem jg_n (i : Nat) {vs : List Nat} (hN : X.N.Nodup) (hi : X.N[i]? = some x := by rfl) (hx : Loc X.env.scope x := by first | exact Or.inl rfl | exact Or.inr rfl) (hv : i ∈ vs := by decide) (hf : X.fn x = true ∨ X.env.scope.names.lookup x = some .local := by first | exact Or.inl rfl | exact Or.inr rfl) : JG X (.Name x pos) vs (gNm i) := jg_name hN hi hx hv hf
theorem jt_cmpO {op : D → D → (D → Prop) → Prop} {i : Nat} {py : Pos} {o : CmpOp} (ho : OpD X (compareOp o) op) (hN : X.N[i]? = some y) (hy : Vis X.env.scope y) (hb : JE X b fb) (hm : behindInMarks o b = false)
    (hd : (y == ("__debug__" : Str)) = false := by decide) (hcd : (y == ("__classdict__" : Str)) = false := by decide) : JT X (.Compare (.Name y py) [o] [b] pos) (dTst (dBinO i op fb)) := by
  obtain ⟨r, h1, h2⟩ := ho.ex
  obtain ⟨tb, pb, kb⟩ := hb.ex
  refine ⟨_, pt_cmpR h1 (pe_var hN hy hd hcd) pb hm, fun T ρ σ H QD Q r h q => ?_⟩
  obtain ⟨⟨m, hm⟩, h⟩ := h
  obtain ⟨a, o, ha, _, _⟩ := r.ow i m hm
  refine ⟨_, ha, kb T ρ σ H _ _ r h fun y ρ1 v H1 r1 p1 v1 h => ?_⟩
  split at h
  · rename_i ds e1
    have rf := r1.freeze e1
    obtain ⟨u, hu, ru⟩ := rf.im i (.list ds) (List.getElem?_set_self (List.getElem?_eq_some_iff.mp e1).1)
    rw [ha] at hu; cases hu
    refine h2 _ H1 _ _ _ _ _ _ (fun a => rf.hdDom) ru (v1.mono hd_freeze) h fun z w H' e v2 h => ?_
    cases v2 with
    | bl b => exact ⟨b, rfl, q _ _ _ (r1.grow e) (p1.trans (.grow e)) h.2⟩
    | _ => exact False.elim h.2
  · exact False.elim h
theorem jt_chain {o o' : CmpOp} {op op' : D → D → (D → Prop) → Prop} (ho : OpD X (compareOp o) op) (ho' : OpD X (compareOp o') op') (ha : JE X a fa) (hb : JE X b fb) (hc : JE X c fc) (hm : lastMarks [o, o'] [b, c] = false := by with_unfolding_all rfl) :
    JT X (.Compare a [o, o'] [b, c] pos) (dTst (dChain op op' fa fb fc)) := by
  obtain ⟨r, h1, h2⟩ := ho.ex
  obtain ⟨r', h1', h2'⟩ := ho'.ex
  obtain ⟨ta, pa, ka⟩ := ha.ex
  obtain ⟨tb, pb, kb⟩ := hb.ex
  obtain ⟨tc, pc, kc⟩ := hc.ex
  refine ⟨_, pt_chain h1 h1' pa pb pc hm, fun T ρ σ H QD Q r h k => ?_⟩
  refine ka T ρ σ H _ _ r h fun d ρ1 v H1 r1 p1 v1 h => ?_
  refine kb T ρ1 σ H1 _ _ r1 h fun e ρ2 w H2 r2 p2 v2 h => ?_
  refine h2 (Hd T ρ2 σ) H2 v w d e _ _ (fun a => r2.hdDom) (v1.mono p2.fz) v2 h fun z u H3 e3 v3 h => ?_
  have r3 := r2.grow e3
  have p3 : Po ρ2 σ H2 ρ2 σ H3 := .grow e3
  cases v3 with
  | bl q =>
    refine ⟨q, rfl, ?_⟩
    cases q with
    | false => exact ⟨false, rfl, k _ _ _ r3 ((p1.trans p2).trans p3) h⟩
    | true =>
      rw [if_pos rfl]
      refine kc T ρ2 σ H3 _ _ r3 h fun g ρ4 y H4 r4 p4 v4 h => ?_
      refine h2' (Hd T ρ4 σ) H4 w y e g _ _ (fun a => r4.hdDom) ((v2.mono p3.fz).mono p4.fz) v4 h fun z u H5 e5 v5 h => ?_
      cases v5 with
      | bl b => exact ⟨b, rfl, k b ρ4 H5 (r4.grow e5) (((p1.trans p2).trans p3).trans (p4.trans (.grow e5))) h⟩
      | _ => exact False.elim h
  | _ => exact False.elim h
/-- a + b of lists, as a new list -/
def lCat (fa fb : DE) : DL := fun ρ Q => fa ρ fun d ρ1 => fb ρ1 fun e ρ2 => ∃ xs ys, d = .list xs ∧ e = .list ys ∧ xs.length + ys.length ≤ 16777216 ∧ Q (xs ++ ys) ρ2
theorem jl_cat (ha : JE X a fa) (hb : JE X b fb) : JL X (.BinOp a .Add b pos) (lCat fa fb) := by
  obtain ⟨ta, pa, ka⟩ := ha.ex
  obtain ⟨tb, pb, kb⟩ := hb.ex
  refine ⟨_, pe_op op_cat pa pb, fun T ρ σ H QD Q r h q => ka T ρ σ H _ _ r h fun d ρ1 v H1 r1 p1 v1 h => kb T ρ1 σ H1 _ _ r1 h fun e ρ2 w H2 r2 p2 v2 h => ?_⟩
  obtain ⟨xs, ys, rfl, rfl, hz, h⟩ := h
  have v1' := v1.mono p2.fz
  cases v1' with
  | lst hp rp =>
    cases v2 with
    | lst hq rq =>
      refine ⟨_, _, _, _, rfl, rfl, at_of hp, at_of hq, by rw [rp.length, rq.length]; exact hz, fun l hl => ?_⟩
      exact q _ _ l _ _ (none_back (p1.trans p2) hl) upd_same (r2.laid hl) ((rp.append rq).mono (hd_laid hl)) ((p1.trans p2).trans (.grow (Ex.new hl))) h
/-- enumerate of a list or a tuple -/
def iEn0 (K : PySem.W.Frag) (ta : TA) : TI := fun σ H R => ta σ H fun vs H1 => ∃ a, vs = [.ref a] ∧ (((∃ xs, SqL K H1 a xs) ∧ R (Ite K a) H1) ∨ ((∃ xs, SqT K H1 a xs) ∧ R (IteT K a) H1))
theorem pi_en {ta : TA} {tpos : Pos} {elts : List Expr} {kk : Nat} (hg : Gl X "enumerate") (hm : X.mg "enumerate" = none) (ha : PA X [e] ta) (hs : starEach [e] X.env = [(false, eval e X.env)] := by rfl) :
    PI X (.Tuple elts kk tpos) (.Call (.Name "enumerate" p) [e] [] pos) (iEn0 X.K ta) := by
  refine ⟨fun pins s σ H R I h => ?_⟩
  refine Call_ (ld_blt I hg hm boot_enumerate (PyProof.Rows.callWith_type1 (thn (ha.run pos pins s σ H _ I h) fun us s1 ⟨vs, H1, I1, r1, q1⟩ => ?_) hs rfl))
  obtain ⟨a, rfl, h⟩ := q1
  obtain ⟨u, rfl, ru⟩ := vals1 r1
  cases ru
  have fp : ∀ b ∈ [s1.heap.objs.size + 1, s1.heap.objs.size], FpOk X pins H1 b := fun b hb => by
    have ge : s1.heap.objs.size ≤ b := by
      rcases (show b = s1.heap.objs.size + 1 ∨ b = s1.heap.objs.size by simpa using hb) with z | z <;> subst z
      · exact Nat.le_succ _
      · exact Nat.le_refl _
    exact I1.fpOk ge (I1.hok.fresh ge)
  rcases h with ⟨⟨xs, hq⟩, h⟩ | ⟨⟨xs, hq⟩, h⟩
  · obtain ⟨its, rv, isL, hz⟩ := I1.list hq
    refine call_enumerate_list isL.isList fun hp he hit _ hk => wpAny_pyIter_enum he ?_
    have I2 : Inv X pins σ H1 { s1 with heap := hp } := I1.kept (t' := s1.toks) hk
    exact ⟨s1.heap.objs.size + 1, [s1.heap.objs.size + 1, s1.heap.objs.size], _, _, H1, rfl, I2, turn_enum a (s1.heap.objs.size + 1) s1.heap.objs.size, ⟨⟨.none, he⟩, hit, Nat.succ_ne_self _⟩, fp, h⟩
  · obtain ⟨its, rv, isT, hz⟩ := I1.tuple hq
    refine own_enum_call (show s1.heap.IsTuple a its.toArray from isT) fun hp he hit hk => wpAny_pyIter_enum he ?_
    have I2 : Inv X pins σ H1 { s1 with heap := hp } := I1.kept (t' := s1.toks) hk
    exact ⟨s1.heap.objs.size + 1, [s1.heap.objs.size + 1, s1.heap.objs.size], _, _, H1, rfl, I2, turn_enT a (s1.heap.objs.size + 1) s1.heap.objs.size, ⟨⟨.none, he⟩, hit, Nat.succ_ne_self _⟩, fp, h⟩
theorem it_enL {K : PySem.W.Frag} {G : Hp} {a : Addr} {xs : List V} {ds : List D} (hp : SqL K G a xs) (rr : RpAll K G xs ds) : ItOk K (Ite K a) G (enD ds) :=
  ⟨fun H e => ⟨xs, ex_l e hp, by rw [enD_len, rr.length]; exact Nat.le_refl _⟩, fun i d H hd e => by
    obtain ⟨g, hg, rfl⟩ := enD_get hd
    obtain ⟨u, hu, ru⟩ := rr.get hg
    refine ⟨⟨xs, u, ex_l e hp, hu⟩, fun x H' y => ?_⟩
    obtain ⟨l, z, rfl, hl, rfl, y⟩ := y
    have := y xs (ex_l e hp)
    rw [hu] at this; cases this
    exact ⟨Ex.new hl, fun O hO eo => rp_newT hO hl (.cons (.int _) (.cons (ru.mono eo) .nil))⟩⟩
theorem it_enT {K : PySem.W.Frag} {G : Hp} {a : Addr} {xs : List V} {ds : List D} (hp : SqT K G a xs) (rr : RpAll K G xs ds) : ItOk K (IteT K a) G (enD ds) :=
  ⟨fun H e => ⟨xs, ex_t e hp, by rw [enD_len, rr.length]; exact Nat.le_refl _⟩, fun i d H hd e => by
    obtain ⟨g, hg, rfl⟩ := enD_get hd
    obtain ⟨u, hu, ru⟩ := rr.get hg
    refine ⟨⟨xs, u, ex_t e hp, hu⟩, fun x H' y => ?_⟩
    obtain ⟨l, z, rfl, hl, rfl, y⟩ := y
    have := y xs (ex_t e hp)
    rw [hu] at this; cases this
    exact ⟨Ex.new hl, fun O hO eo => rp_newT hO hl (.cons (.int _) (.cons (ru.mono eo) .nil))⟩⟩
def iEn (f : DE) : DL := fun ρ Q => f ρ fun d ρ1 => ∃ ds, seqD d = some ds ∧ Q (enD ds) ρ1
theorem ji_en {elts : List Expr} {kk : Nat} {tpos : Pos} (hm : X.mg "enumerate" = none) (ha : JE X a fa) (hg : Gl X "enumerate" := by rfl) (hs : starEach [a] X.env = [(false, eval a X.env)] := by rfl) : JI X (.Tuple elts kk tpos) (.Call (.Name "enumerate" p) [a] [] pos) (iEn fa) := by
  obtain ⟨t, pt, kt⟩ := ha.ex
  refine ⟨_, pi_en hg hm (pa_cons pt pa_nil hs) hs, fun T ρ σ H QD R r h q => kt T ρ σ H _ _ r h fun d ρ1 v H1 r1 p1 v1 h => ?_⟩
  obtain ⟨ds, e, h⟩ := h
  cases v1
  case dct h1 h2 h3 => rw [h3, seq_dk] at e; cases e
  all_goals simp only [seqD, Option.some.injEq, reduceCtorEq] at e
  · subst e
    rename_i hp rr
    exact ⟨_, rfl, .inl ⟨⟨_, .inl (.inl (at_of hp))⟩, q _ _ _ _ r1 p1 (it_enL (.inl (.inl hp)) rr) h⟩⟩
  · subst e
    rename_i hp rr
    exact ⟨_, rfl, .inr ⟨⟨_, sqt_of hp⟩, q _ _ _ _ r1 p1 (it_enT (lt_of hp) rr) h⟩⟩
  · subst e
    rename_i hp rr
    exact ⟨_, rfl, .inl ⟨⟨_, sql_of hp⟩, q _ _ _ _ r1 p1 (it_enL hp rr) h⟩⟩
/-- products: one factor small, or both within a million bits -/
abbrev dMulA := dI2 (fun i j => CMul i j ∨ CMulW i j) fun i j => .int (i * j)
theorem opd_mulA : OpD X (binaryOp .Mult) dMulA := by
  refine ⟨_, .or op_mul op_mulW, fun O H x y d e QD Q hO rx ry h k => ?_⟩
  cases rx <;> cases ry <;> first | exact False.elim h | skip
  obtain ⟨h1, h2⟩ := h
  rcases h1 with h1 | h1
  · exact .inl ⟨_, _, rfl, rfl, h1, k _ _ H (.refl H) (.int _) h2⟩
  · exact .inr ⟨_, _, rfl, rfl, h1, k _ _ H (.refl H) (.int _) h2⟩
/-- n += e -/
def sAugI (i : Nat) (f : DE) : DS := fun E ρ => match ρ[i]? with
  | some (some (.im (.int n))) => f ρ fun d ρ1 => match d with
    | .int k => E.nx (ρ1.set i (some (.im (.int (n + k)))))
    | _ => False
  | _ => False
end
end Dn
set_option Elab.async false
set_option linter.all false
set_option maxRecDepth 100000
set_option autoImplicit false
set_option maxHeartbeats 4000000
/-! What readings over slots come to: loops, comprehensions, rows of ints. -/
namespace Dn
open PySem L2 Evl PySem.Spec PyProof.Rows
def dNever : DE := fun _ _ => False
theorem je_never {X : Cx} {e : Expr} : JE X e dNever := ⟨fun _ _ _ => False, ⟨fun _ _ _ _ _ _ h => h.elim⟩, fun _ _ _ _ _ _ _ h _ => h.elim⟩
theorem wpLc_cps {g : DG} {tt : DT} {te : DE} {vs : List Nat} {Q : List D → Env → Prop} (P : List D → List D → Env → Prop) {ds : List D} {ρ0 : Env} (h0 : P [] [] ρ0)
    (hs : ∀ (done : List D) (d : D) (rest acc : List D) (ρ : Env) (K : List D → Env → Prop), ds = done ++ d :: rest → P done acc ρ → (∀ acc' ρ', P (done ++ [d]) acc' ρ' → K acc' ρ') →
      acc.length < 16777216 ∧ g d (wipeD ρ vs) fun ρ1 => tt ρ1 fun b ρ2 => if b = true then te ρ2 fun y ρ3 => K (acc ++ [y]) (wipeD ρ3 vs) else K acc (wipeD ρ2 vs))
    (he : ∀ acc ρ, P ds acc ρ → Q acc ρ) : wpLc g tt te vs Q ds [] ρ0 := by
  have aux : ∀ (rest done acc : List D) (ρ : Env), ds = done ++ rest → P done acc ρ → wpLc g tt te vs Q rest acc ρ := by
    intro rest
    induction rest with
    | nil => intro done acc ρ e p; rw [List.append_nil] at e; subst e; exact he acc ρ p
    | cons d rest ih =>
      intro done acc ρ e p
      exact hs done d rest acc ρ _ e p fun acc' ρ' p' => ih (done ++ [d]) acc' ρ' (by rw [e]; simp) p'
  exact aux ds [] [] ρ0 rfl h0
/-- each item by itself, the slots left as they are -/
theorem wpLc_map {g : DG} {tt : DT} {te : DE} {vs : List Nat} {Q : List D → Env → Prop} (h : D → D) {ds : List D} {ρ0 : Env} (hl : ds.length < 16777216) (hw : wipeD ρ0 vs = ρ0)
    (hs : ∀ d, d ∈ ds → ∀ (K : D → Env → Prop), (∀ ρ3, wipeD ρ3 vs = ρ0 → K (h d) ρ3) → g d ρ0 fun ρ1 => tt ρ1 fun b ρ2 => if b = true then te ρ2 fun y ρ3 => K y ρ3 else False)
    (hf : ∀ d ρ1, d ∈ ds → tt ρ1 = fun K => K true ρ1) (he : Q (ds.map h) ρ0) : wpLc g tt te vs Q ds [] ρ0 := by
  refine wpLc_cps (fun done acc ρ => acc = done.map h ∧ ρ = ρ0) ⟨rfl, rfl⟩ (fun done d rest acc ρ K e p k => ?_) (fun acc ρ p => by obtain ⟨rfl, rfl⟩ := p; exact he)
  obtain ⟨rfl, rfl⟩ := p
  have hm : d ∈ ds := by rw [e]; simp
  refine ⟨by rw [List.length_map]; have := congrArg List.length e; simp at this; omega, ?_⟩
  rw [hw]
  have z := hs d hm (fun y ρ3 => K (done.map h ++ [y]) (wipeD ρ3 vs)) fun ρ3 w => by rw [w]; exact k _ _ ⟨by simp, rfl⟩
  have e2 : (fun ρ1 => tt ρ1 fun b ρ2 => if b = true then te ρ2 fun y ρ3 => K (done.map h ++ [y]) (wipeD ρ3 vs) else False) = fun ρ1 => tt ρ1 fun b ρ2 => if b = true then te ρ2 fun y ρ3 => K (done.map h ++ [y]) (wipeD ρ3 vs) else K (done.map h) (wipeD ρ2 vs) := by
    funext ρ1
    rw [hf d ρ1 hm]
    simp
  rw [← e2]
  exact z
/-- items that pass a test -/
theorem wpLc_fil {g : DG} {tt : DT} {te : DE} {vs : List Nat} {Q : List D → Env → Prop} (p : D → Bool) (h : D → D) {ds : List D} {ρ0 : Env} (hl : ds.length < 16777216) (hw : wipeD ρ0 vs = ρ0)
    (hs : ∀ d, d ∈ ds → ∀ (K : D → Env → Prop) (N : Env → Prop), (p d = true → ∀ ρ3, wipeD ρ3 vs = ρ0 → K (h d) ρ3) → (p d = false → ∀ ρ3, wipeD ρ3 vs = ρ0 → N ρ3) → g d ρ0 fun ρ1 => tt ρ1 fun b ρ2 => if b = true then te ρ2 fun y ρ3 => K y ρ3 else N ρ2)
    (he : Q ((ds.filter p).map h) ρ0) : wpLc g tt te vs Q ds [] ρ0 := by
  refine wpLc_cps (fun done acc ρ => acc = (done.filter p).map h ∧ ρ = ρ0) ⟨rfl, rfl⟩ (fun done d rest acc ρ K e q k => ?_) (fun acc ρ q => by obtain ⟨rfl, rfl⟩ := q; exact he)
  obtain ⟨rfl, rfl⟩ := q
  have hm : d ∈ ds := by rw [e]; simp
  refine ⟨?_, ?_⟩
  · rw [List.length_map]
    have h1 := List.length_filter_le p done
    have := congrArg List.length e
    simp at this
    omega
  · rw [hw]
    refine hs d hm (fun y ρ3 => K ((done.filter p).map h ++ [y]) (wipeD ρ3 vs)) (fun ρ2 => K ((done.filter p).map h) (wipeD ρ2 vs)) (fun hp ρ3 w => ?_) (fun hp ρ3 w => ?_)
    · rw [w]; exact k _ _ ⟨by rw [List.filter_append, List.filter_cons_of_pos (by exact hp)]; simp, rfl⟩
    · rw [w]; exact k _ _ ⟨by rw [List.filter_append, List.filter_cons_of_neg (by simp [hp])]; simp, rfl⟩
theorem wpFor_cps {g : DG} {body : DS} {E : DEnds} (P : List D → Env → Prop) {ds : List D} {ρ0 : Env} (h0 : P [] ρ0)
    (hs : ∀ (done : List D) (d : D) (rest : List D) (ρ : Env) (K : Env → Prop), ds = done ++ d :: rest → P done ρ → (∀ ρ', P (done ++ [d]) ρ' → K ρ') → g d ρ fun ρ1 => body { nx := K, ct := K, bk := E.nx, rt := E.rt } ρ1)
    (he : ∀ ρ, P ds ρ → E.nx ρ) : wpFor g body E ds ρ0 := by
  have aux : ∀ (rest done : List D) (ρ : Env), ds = done ++ rest → P done ρ → wpFor g body E rest ρ := by
    intro rest
    induction rest with
    | nil => intro done ρ e p; rw [List.append_nil] at e; subst e; exact he ρ p
    | cons d rest ih =>
      intro done ρ e p
      exact hs done d rest ρ _ e p fun ρ' p' => ih (done ++ [d]) ρ' (by rw [e]; simp) p'
  exact aux ds [] ρ0 rfl h0
/-- a search that returns what it finds first -/
theorem wpFor_find {g : DG} {body : DS} {N bk ct : Env → Prop} {Q : D → Prop} {ds : List D} {ρ0 : Env} (f : D → Option D) (I : Env → Prop) (h0 : I ρ0)
    (hs : ∀ d, d ∈ ds → ∀ (ρ : Env) (K B : Env → Prop), I ρ → (∀ v, f d = some v → Q v) → (f d = none → ∀ ρ', I ρ' → K ρ') → g d ρ fun ρ1 => body { nx := K, ct := K, bk := B, rt := fun d _ => Q d } ρ1)
    (hf : ∀ v, ds.findSome? f = some v → Q v) (hn : ds.findSome? f = none → ∀ ρ, I ρ → N ρ) : wpFor g body { nx := N, rt := fun d _ => Q d, bk := bk, ct := ct } ds ρ0 := by
  induction ds generalizing ρ0 with
  | nil => exact hn rfl ρ0 h0
  | cons d ds ih =>
    refine hs d List.mem_cons_self ρ0 _ _ h0 (fun v e => hf v ?_) (fun e ρ' i => ih i (fun d hd => hs d (List.mem_cons_of_mem _ hd)) (fun v h => hf v ?_) fun h => hn ?_)
    · rw [List.findSome?_cons, e]
    · rw [List.findSome?_cons, e]; exact h
    · rw [List.findSome?_cons, e]; exact h

/-! ### tuples of ints, rows -/
def tI (ns : List Int) : D := .tuple (ns.map PyData.int)
def tR (rs : List (List Int)) : D := .tuple (rs.map tI)
theorem eqvAll_int : ∀ (a b : List Int), PyData.eqvAll (a.map PyData.int) (b.map PyData.int) = decide (a = b)
  | [], [] => by simp [PyData.eqvAll]
  | [], _ :: _ => by simp [PyData.eqvAll]
  | _ :: _, [] => by simp [PyData.eqvAll]
  | x :: a, y :: b => by
    simp only [List.map_cons, PyData.eqvAll, PyData.eqv, eqvAll_int a b]
    by_cases h : x = y <;> simp [h]
theorem eqv_tI (a b : List Int) : PyData.eqv (tI a) (tI b) = decide (a = b) := by unfold tI; simp only [PyData.eqv, eqvAll_int]
theorem eqvAll_tI : ∀ (a b : List (List Int)), PyData.eqvAll (a.map tI) (b.map tI) = decide (a = b)
  | [], [] => by simp [PyData.eqvAll]
  | [], _ :: _ => by simp [PyData.eqvAll]
  | _ :: _, [] => by simp [PyData.eqvAll]
  | x :: a, y :: b => by
    simp only [List.map_cons, PyData.eqvAll, eqv_tI, eqvAll_tI a b]
    by_cases h : x = y <;> simp [h]
theorem eqv_tR (a b : List (List Int)) : PyData.eqv (tR a) (tR b) = decide (a = b) := by unfold tR; simp only [PyData.eqv, eqvAll_tI]
theorem layAll_int : ∀ (a : List Int), PyData.canLayAll0 (a.map PyData.int) = true ∧ PyData.depthAll (a.map PyData.int) = 0
  | [] => by simp [PyData.canLayAll0, PyData.depthAll]
  | x :: a => by simp [PyData.canLayAll0, PyData.canLay0, PyData.depthAll, PyData.depth, layAll_int a]
theorem lay_tI (a : List Int) : (tI a).canLay0 = true ∧ (tI a).depth = 1 := by
  unfold tI; simp [PyData.canLay0, PyData.depth, layAll_int a]
theorem shaped_tI (a : List Int) : SeqAt.shaped (tI a) = true := by
  unfold SeqAt.shaped; simp [lay_tI a]
theorem layAll_tI : ∀ (a : List (List Int)), PyData.canLayAll0 (a.map tI) = true ∧ PyData.depthAll (a.map tI) ≤ 1
  | [] => by simp [PyData.canLayAll0, PyData.depthAll]
  | x :: a => by
    have h := layAll_tI a
    have h2 := lay_tI x
    simp [PyData.canLayAll0, PyData.depthAll, h2.1, h2.2, h.1]
    omega
theorem shaped_tR (a : List (List Int)) : SeqAt.shaped (tR a) = true := by
  have h := layAll_tI a
  unfold SeqAt.shaped tR
  simp [PyData.canLay0, PyData.depth, h.1]
  omega
theorem shaped_int (i : Int) : SeqAt.shaped (.int i) = true := rfl
theorem shaped_bool (i : Bool) : SeqAt.shaped (.bool i) = true := rfl
theorem atI_in {α : Type} {l : List α} {i : Int} {d : α} (h0 : 0 ≤ i) (h1 : i < l.length) : atI l i = some (l.getD i.toNat d) := by
  unfold atI ixN
  rw [if_pos h0, if_pos h1]
  have h2 : i.toNat < l.length := by omega
  simp [List.getD, List.getElem?_eq_getElem h2]
theorem ixI {r : List Int} {i : Int} {Q : D → Prop} (h0 : 0 ≤ i) (h1 : i < r.length) (h : Q (.int (r.getD i.toNat 0))) : dIx (tI r) (.int i) Q := by
  refine ⟨_, atI_in (d := .int 0) h0 (by simpa using h1), ?_⟩
  have h2 : i.toNat < r.length := by omega
  simp [List.getD, List.getElem?_eq_getElem h2] at h ⊢
  exact h
theorem ixR {r : List (List Int)} {i : Int} {Q : D → Prop} (h0 : 0 ≤ i) (h1 : i < r.length) (h : Q (tI (r.getD i.toNat []))) : dIx (tR r) (.int i) Q := by
  refine ⟨_, atI_in (d := tI []) h0 (by simpa using h1), ?_⟩
  have h2 : i.toNat < r.length := by omega
  simp [List.getD, List.getElem?_eq_getElem h2] at h ⊢
  exact h
theorem seq_tI (r : List Int) : seqD (tI r) = some (r.map PyData.int) := rfl
theorem seq_tR (r : List (List Int)) : seqD (tR r) = some (r.map tI) := rfl
/-- square rows of things -/
structure Rw (rs : List (List Int)) : Prop where
  pos : 1 ≤ rs.length
  most : rs.length ≤ 24
  row : ∀ r, r ∈ rs → r.length = rs.length ∧ ∀ x, x ∈ r → 0 ≤ x ∧ x < rs.length
def rc (rs : List (List Int)) (a b : Int) : Int := (rs.getD a.toNat []).getD b.toNat 0
theorem getD_mem {α : Type} {l : List α} {i : Nat} {d : α} (h : i < l.length) : l.getD i d ∈ l := by
  simp [List.getD, List.getElem?_eq_getElem h]
theorem Rw.len {rs : List (List Int)} (h : Rw rs) {a : Int} (a0 : 0 ≤ a) (a1 : a < rs.length) : (rs.getD a.toNat []).length = rs.length := (h.row _ (getD_mem (by omega))).1
theorem Rw.rc {rs : List (List Int)} (h : Rw rs) {a b : Int} (a0 : 0 ≤ a) (a1 : a < rs.length) (b0 : 0 ≤ b) (b1 : b < rs.length) : 0 ≤ rc rs a b ∧ rc rs a b < rs.length := by
  refine (h.row _ (getD_mem (d := []) (show a.toNat < rs.length by omega))).2 _ (getD_mem ?_)
  rw [h.len a0 a1]; omega
/-- rows[a][b] -/
theorem ixRC {rs : List (List Int)} {a b : Int} {Q : D → Prop} (h : Rw rs) (a0 : 0 ≤ a) (a1 : a < rs.length) (b0 : 0 ≤ b) (b1 : b < rs.length) (q : Q (.int (rc rs a b))) : dIx (tR rs) (.int a) fun d => dIx d (.int b) Q :=
  ixR a0 a1 (ixI b0 (by rw [h.len a0 a1]; exact b1) q)
def rgI (n : Nat) : List Int := (List.range n).map fun (k : Nat) => (k : Int)
theorem rgD_rgI (n : Nat) : rgD 0 (n : Int) = (rgI n).map PyData.int := by
  unfold rgD rgI
  simp
theorem mem_rgI {n : Nat} {x : Int} : x ∈ rgI n ↔ 0 ≤ x ∧ x < n := by
  unfold rgI
  simp only [List.mem_map, List.mem_range]
  constructor
  · rintro ⟨k, h, rfl⟩; omega
  · rintro ⟨h0, h1⟩; exact ⟨x.toNat, by omega, by omega⟩
theorem rgI_len (n : Nat) : (rgI n).length = n := by unfold rgI; simp
theorem rgI_get {n k : Nat} (h : k < n) : (rgI n)[k]? = some (k : Int) := by unfold rgI; simp [h]
end Dn
set_option Elab.async false
set_option linter.all false
set_option maxRecDepth 100000
set_option autoImplicit false
set_option maxHeartbeats 4000000
namespace Dn
open PySem L2 Evl PySem.Spec PyProof.Rows
theorem tyN_dl (kvs : List (D × D)) : tyN (.dict kvs) = "dict" ∨ tyN (.dict kvs) = "list" := by
  unfold tyN
  split <;> first | exact .inl rfl | exact .inr rfl | (rename_i h; cases h; done)
theorem kit_int (d : D) : kitB (tyN d) "int" = some (match d with | .int _ => true | .bool _ => true | _ => false) := by
  cases d with
  | dict kvs => rcases tyN_dl kvs with e | e <;> (rw [e]; show _ = some false; decide +kernel)
  | _ => simp only [tyN]; decide +kernel
theorem kit_bool (d : D) : kitB (tyN d) "bool" = some (match d with | .bool _ => true | _ => false) := by
  cases d with
  | dict kvs => rcases tyN_dl kvs with e | e <;> (rw [e]; show _ = some false; decide +kernel)
  | _ => simp only [tyN]; decide +kernel
theorem kit_tuple (d : D) : kitB (tyN d) "tuple" = some (match d with | .tuple _ => true | _ => false) := by
  cases d with
  | dict kvs => rcases tyN_dl kvs with e | e <;> (rw [e]; show _ = some false; decide +kernel)
  | _ => simp only [tyN]; decide +kernel
theorem kit_str (d : D) : kitB (tyN d) "str" = some (match d with | .str _ => true | _ => false) := by
  cases d with
  | dict kvs => rcases tyN_dl kvs with e | e <;> (rw [e]; show _ = some false; decide +kernel)
  | _ => simp only [tyN]; decide +kernel
theorem tst_bool {b : Bool} {Q : Bool → Env → Prop} {ρ : Env} (h : Q b ρ) : (match (PyData.bool b) with | .bool b => Q b ρ | _ => False) := h
/-- a truth value that rules what comes: both ways -/
theorem bool_ways {b : Bool} {P1 P2 : Prop} (h1 : b = true → P1) (h2 : b = false → P2) : (match PyData.bool b with | .bool true => P1 | .bool false => P2 | _ => False) := by
  cases b
  · exact h2 rfl
  · exact h1 rfl
theorem ite_ways {b : Bool} {P1 P2 : Prop} (h1 : b = true → P1) (h2 : b = false → P2) : (if b = true then P1 else P2) := by
  cases b
  · exact h2 rfl
  · exact h1 rfl
/-- the readings, written out -/
local macro_rules | `(tactic| walk_at "dd") => `(tactic| skip)
end Dn
set_option Elab.async false
set_option linter.all false
set_option maxRecDepth 100000
set_option autoImplicit false
set_option maxHeartbeats 4000000
namespace Dn
open PySem L2 Evl PySem.Spec PyProof.Rows
theorem map_split {α β : Type} {f : α → β} {l : List α} {done rest : List β} {d : β} (e : l.map f = done ++ d :: rest) : ∃ l1 x l2, l = l1 ++ x :: l2 ∧ done = l1.map f ∧ d = f x ∧ rest = l2.map f := by
  obtain ⟨l1, l2, h1, h2, h3⟩ := List.map_eq_append_iff.mp e
  cases l2 with
  | nil => simp at h3
  | cons x l2 =>
    simp at h3
    exact ⟨l1, x, l2, h1, h2.symm, h3.1.symm, h3.2.symm⟩
/-- each item by itself, over a list that is made of another one -/
theorem wpLc_mapL {α : Type} {g : DG} {tt : DT} {te : DE} {vs : List Nat} {Q : List D → Env → Prop} (l : List α) (f h : α → D) {ρ0 : Env} (hl : l.length < 16777216) (hw : wipeD ρ0 vs = ρ0)
    (hs : ∀ x, x ∈ l → ∀ (K : D → Env → Prop), (∀ ρ3, wipeD ρ3 vs = ρ0 → K (h x) ρ3) → g (f x) ρ0 fun ρ1 => tt ρ1 fun b ρ2 => if b = true then te ρ2 fun y ρ3 => K y ρ3 else False)
    (hf : ∀ ρ1, tt ρ1 = fun K => K true ρ1) (he : Q (l.map h) ρ0) : wpLc g tt te vs Q (l.map f) [] ρ0 := by
  refine wpLc_cps (fun done acc ρ => ∃ l1 l2, l = l1 ++ l2 ∧ done = l1.map f ∧ acc = l1.map h ∧ ρ = ρ0) ⟨[], l, rfl, rfl, rfl, rfl⟩ (fun done d rest acc ρ K e p k => ?_) (fun acc ρ p => ?_)
  · obtain ⟨l1, x, l2, rfl, rfl, rfl, rfl⟩ := map_split e
    obtain ⟨m1, m2, e1, e2, rfl, rfl⟩ := p
    have e3 : m1 = l1 := by
      have h1 := congrArg List.length e2
      simp at h1
      have h2 := congrArg (List.take m1.length) e1
      rw [List.take_left, h1.symm, List.take_left] at h2
      exact h2.symm
    subst e3
    refine ⟨by simp at hl ⊢; omega, ?_⟩
    rw [hw]
    have z := hs x (by simp) (fun y ρ3 => K (m1.map h ++ [y]) (wipeD ρ3 vs)) fun ρ3 w => by rw [w]; exact k _ _ ⟨m1 ++ [x], l2, by simp, by simp, by simp, rfl⟩
    have e2 : (fun ρ1 => tt ρ1 fun b ρ2 => if b = true then te ρ2 fun y ρ3 => K (m1.map h ++ [y]) (wipeD ρ3 vs) else False) = fun ρ1 => tt ρ1 fun b ρ2 => if b = true then te ρ2 fun y ρ3 => K (m1.map h ++ [y]) (wipeD ρ3 vs) else K (m1.map h) (wipeD ρ2 vs) := by
      funext ρ1
      rw [hf ρ1]
      simp
    rw [← e2]
    exact z
  · obtain ⟨m1, m2, rfl, e2, rfl, rfl⟩ := p
    have : m2 = [] := by
      have h1 := congrArg List.length e2
      simp at h1
      exact h1
    subst this
    simpa using he
theorem wpLc_filL {α : Type} {g : DG} {tt : DT} {te : DE} {vs : List Nat} {Q : List D → Env → Prop} (l : List α) (f h : α → D) (p : α → Bool) {ρ0 : Env} (hl : l.length < 16777216) (hw : wipeD ρ0 vs = ρ0)
    (hs : ∀ x, x ∈ l → ∀ (K : D → Env → Prop) (N : Env → Prop), (p x = true → ∀ ρ3, wipeD ρ3 vs = ρ0 → K (h x) ρ3) → (p x = false → ∀ ρ3, wipeD ρ3 vs = ρ0 → N ρ3) → g (f x) ρ0 fun ρ1 => tt ρ1 fun b ρ2 => if b = true then te ρ2 fun y ρ3 => K y ρ3 else N ρ2)
    (he : Q ((l.filter p).map h) ρ0) : wpLc g tt te vs Q (l.map f) [] ρ0 := by
  refine wpLc_cps (fun done acc ρ => ∃ l1 l2, l = l1 ++ l2 ∧ done = l1.map f ∧ acc = (l1.filter p).map h ∧ ρ = ρ0) ⟨[], l, rfl, rfl, rfl, rfl⟩ (fun done d rest acc ρ K e q k => ?_) (fun acc ρ q => ?_)
  · obtain ⟨l1, x, l2, rfl, rfl, rfl, rfl⟩ := map_split e
    obtain ⟨m1, m2, e1, e2, rfl, rfl⟩ := q
    have e3 : m1 = l1 := by
      have h1 := congrArg List.length e2
      simp at h1
      have h2 := congrArg (List.take m1.length) e1
      rw [List.take_left, h1.symm, List.take_left] at h2
      exact h2.symm
    subst e3
    refine ⟨?_, ?_⟩
    · have h1 := List.length_filter_le p m1
      simp at hl ⊢
      omega
    · rw [hw]
      refine hs x (by simp) (fun y ρ3 => K ((m1.filter p).map h ++ [y]) (wipeD ρ3 vs)) (fun ρ2 => K ((m1.filter p).map h) (wipeD ρ2 vs)) (fun hp ρ3 w => ?_) (fun hp ρ3 w => ?_)
      · rw [w]; exact k _ _ ⟨m1 ++ [x], l2, by simp, by simp, by rw [List.filter_append, List.filter_cons_of_pos hp]; simp, rfl⟩
      · rw [w]; exact k _ _ ⟨m1 ++ [x], l2, by simp, by simp, by rw [List.filter_append, List.filter_cons_of_neg (by simp [hp])]; simp, rfl⟩
  · obtain ⟨m1, m2, rfl, e2, rfl, rfl⟩ := q
    have : m2 = [] := by
      have h1 := congrArg List.length e2
      simp at h1
      exact h1
    subst this
    simpa using he
/-- a search over a list that is made of another one -/
theorem wpFor_fs {α : Type} {g : DG} {body : DS} {N bk ct : Env → Prop} {Q : D → Prop} (l : List α) (it : α → D) (f : α → Option D) {ρ0 : Env} (I : Env → Prop) (h0 : I ρ0)
    (hs : ∀ x, x ∈ l → ∀ (ρ : Env) (K B : Env → Prop), I ρ → (∀ v, f x = some v → Q v) → (f x = none → ∀ ρ', I ρ' → K ρ') → g (it x) ρ fun ρ1 => body { nx := K, ct := K, bk := B, rt := fun d _ => Q d } ρ1)
    (hf : ∀ v, l.findSome? f = some v → Q v) (hn : l.findSome? f = none → ∀ ρ, I ρ → N ρ) : wpFor g body { nx := N, rt := fun d _ => Q d, bk := bk, ct := ct } (l.map it) ρ0 := by
  induction l generalizing ρ0 with
  | nil => exact hn rfl ρ0 h0
  | cons d ds ih =>
    refine hs d List.mem_cons_self ρ0 _ _ h0 (fun v e => hf v ?_) (fun e ρ' i => ih i (fun d hd => hs d (List.mem_cons_of_mem _ hd)) (fun v h => hf v ?_) fun h => hn ?_)
    · rw [List.findSome?_cons, e]
    · rw [List.findSome?_cons, e]; exact h
    · rw [List.findSome?_cons, e]; exact h
theorem fs_find {α β : Type} (p : α → Bool) (r : α → β) : ∀ l : List α, l.findSome? (fun x => if p x = true then some (r x) else none) = (l.find? p).map r
  | [] => rfl
  | x :: l => by
    rw [List.findSome?_cons, List.find?_cons]
    cases h : p x
    · simp [fs_find p r l]
    · simp
theorem dLen_tR {rs : List (List Int)} {Q : D → Prop} : dLen [tR rs] Q = Q (.int rs.length) := by show Q _ = _; simp
theorem dLen_tI {rs : List Int} {Q : D → Prop} : dLen [tI rs] Q = Q (.int rs.length) := by show Q _ = _; simp
theorem dLen_tup {xs : List D} {Q : D → Prop} : dLen [.tuple xs] Q = Q (.int xs.length) := rfl
theorem dLen_lst {xs : List D} {Q : D → Prop} : dLen [.list xs] Q = Q (.int xs.length) := rfl
theorem seq_tup {xs : List D} : seqD (.tuple xs) = some xs := rfl
theorem seq_lst {xs : List D} : seqD (.list xs) = some xs := rfl
theorem tI_def (xs : List Int) : (PyData.tuple (xs.map PyData.int)) = tI xs := rfl
/-- enumerate of a made list -/
theorem enD_map {α : Type} (l : List α) (f : α → D) (d : α) : enD (l.map f) = (rgI l.length).map fun k => .tuple [.int k, f (l.getD k.toNat d)] := by
  apply List.ext_getElem?
  intro i
  by_cases h : i < l.length
  · unfold enD
    rw [List.getElem?_zipWith, List.getElem?_map, List.getElem?_map, rgI_get h, List.length_map, List.getElem?_range h]
    simp [h, List.getD]
  · rw [List.getElem?_eq_none_iff.mpr (by rw [enD_len]; simp; omega), List.getElem?_eq_none_iff.mpr (by simp [rgI_len]; omega)]
end Dn
set_option Elab.async false
set_option linter.all false
set_option maxRecDepth 100000
set_option autoImplicit false
set_option maxHeartbeats 4000000
/-! dicts that a frame owns: {}, x[k] = e, x[k], k in x, k not in x -/
namespace Dn
open PySem L2 Evl PySem.Spec PyProof.Rows
def keyD : D → Option Key
  | .int i => some (.inl i)
  | .str s => some (.inr s)
  | _ => none
theorem keyD_rp {K : PySem.W.Frag} {G : Hp} {v : V} {d : D} {k : Key} (r : Rp K G v d) (h : keyD d = some k) : v = kV k := by
  cases r <;> first | (cases h; rfl) | (exact nomatch h)
def valD (kvs : List (Key × D)) (k : Key) : Option D := (kvs.find? fun kv => decide (kv.1 = k)).map (·.2)
def putD (kvs : List (Key × D)) (k : Key) (d : D) : List (Key × D) :=
  if (kvs.any fun kv => decide (kv.1 = k)) = true then kvs.map (fun kv => if kv.1 = k then (kv.1, d) else kv) else kvs ++ [(k, d)]
abbrev KvRp (K : PySem.W.Frag) (G : Hp) (kvs : List (Key × D)) (kws : List (Key × V)) : Prop := Paired (fun (p : Key × D) (q : Key × V) => p.1 = q.1 ∧ Rp K G q.2 p.2) kvs kws
theorem KvRp.mono {K : PySem.W.Frag} {G G' : Hp} (e : Ex G G') {kvs : List (Key × D)} {kws : List (Key × V)} (h : KvRp K G kvs kws) : KvRp K G' kvs kws := Paired.mapP h fun _ _ q => ⟨q.1, q.2.mono e⟩
theorem KvRp.len {K : PySem.W.Frag} {G : Hp} {kvs : List (Key × D)} {kws : List (Key × V)} (h : KvRp K G kvs kws) : kvs.length = kws.length := by
  induction h with
  | nil => rfl
  | cons _ _ ih => simp [ih]
theorem KvRp.val {K : PySem.W.Frag} {G : Hp} {kvs : List (Key × D)} {kws : List (Key × V)} (h : KvRp K G kvs kws) (k : Key) : (valD kvs k = none ∧ valV kws k = none) ∨ ∃ d v, valD kvs k = some d ∧ valV kws k = some v ∧ Rp K G v d := by
  induction h with
  | nil => exact .inl ⟨rfl, rfl⟩
  | @cons p q ps qs r t ih =>
    unfold valD valV at ih ⊢
    rw [List.find?_cons, List.find?_cons]
    by_cases z : p.1 = k
    · have z2 : q.1 = k := by rw [← r.1]; exact z
      simp only [z, z2, decide_true, Option.map_some]
      exact .inr ⟨_, _, rfl, rfl, r.2⟩
    · have z2 : ¬ q.1 = k := by rw [← r.1]; exact z
      simp only [z, z2, decide_false]
      exact ih
theorem KvRp.any {K : PySem.W.Frag} {G : Hp} {kvs : List (Key × D)} {kws : List (Key × V)} (h : KvRp K G kvs kws) (k : Key) : (kvs.any fun kv => decide (kv.1 = k)) = (kws.any fun kv => decide (kv.1 = k)) := by
  induction h with
  | nil => rfl
  | @cons p q ps qs r t ih => simp only [List.any_cons, ih, r.1]
theorem KvRp.rep {K : PySem.W.Frag} {G : Hp} {kvs : List (Key × D)} {kws : List (Key × V)} (h : KvRp K G kvs kws) (k : Key) {v : V} {d : D} (r : Rp K G v d) : KvRp K G (kvs.map fun kv => if kv.1 = k then (kv.1, d) else kv) (kws.map fun kv => if kv.1 = k then (kv.1, v) else kv) := by
  induction h with
  | nil => exact .nil
  | @cons p q ps qs s t ih =>
    rw [List.map_cons, List.map_cons]
    refine .cons ?_ ih
    by_cases z : p.1 = k
    · have z2 : q.1 = k := by rw [← s.1]; exact z
      rw [if_pos z, if_pos z2]
      exact ⟨s.1, r⟩
    · have z2 : ¬ q.1 = k := by rw [← s.1]; exact z
      rw [if_neg z, if_neg z2]
      exact s
theorem KvRp.add {K : PySem.W.Frag} {G : Hp} {kvs : List (Key × D)} {kws : List (Key × V)} (h : KvRp K G kvs kws) (k : Key) {v : V} {d : D} (r : Rp K G v d) : KvRp K G (kvs ++ [(k, d)]) (kws ++ [(k, v)]) := by
  induction h with
  | nil => exact .cons ⟨rfl, r⟩ .nil
  | cons s t ih => exact .cons s ih
theorem KvRp.put {K : PySem.W.Frag} {G : Hp} {kvs : List (Key × D)} {kws : List (Key × V)} (h : KvRp K G kvs kws) (k : Key) {v : V} {d : D} (r : Rp K G v d) : KvRp K G (putD kvs k d) (putK kws k v) := by
  unfold putD putK
  rw [h.any k]
  split
  · exact h.rep k r
  · exact h.add k r
/-- what stands in slot i, if it is an owned dict -/
def atK (ρ : Env) (i : Nat) : Option (List (Key × D)) := match ρ[i]? with
  | some (some (.ow (.dct kvs))) => some kvs
  | _ => none
theorem atK_some {ρ : Env} {i : Nat} {kvs : List (Key × D)} (h : atK ρ i = some kvs) : ρ[i]? = some (some (SV.ow (.dct kvs))) := by
  unfold atK at h
  split at h
  · cases h; assumption
  · cases h
theorem RS.atK {K : PySem.W.Frag} {T : Addr → Prop} {ρ : Env} {σ : L2.St} {H : Hp} {i : Nat} {kvs : List (Key × D)} (r : RS K T ρ σ H) (h : Dn.atK ρ i = some kvs) : ∃ q kws, ρ[i]? = some (some (SV.ow (.dct kvs))) ∧ σ[i]? = some (some (V.ref q)) ∧ H q = some (.dK kws) ∧ KvRp K (hide (Hd T ρ σ) H) kvs kws := by
  have hm := atK_some h
  obtain ⟨q, o, h1, h2, h3⟩ := r.ow i _ hm
  cases o with
  | dK kws => exact ⟨q, kws, hm, h1, h2, h3⟩
  | _ => exact h3.elim
section
variable {X : Cx} {a b c e : Expr} {fa fb fc : DE} {pos p : Pos} {es : List Expr} {x y : Str}
/-- x[k], x an owned dict -/
def dGetK (i : Nat) (fb : DE) : DE := fun ρ Q => (atK ρ i).isSome = true ∧ fb ρ fun y ρ1 => ∃ kvs k d, atK ρ1 i = some kvs ∧ keyD y = some k ∧ valD kvs k = some d ∧ Q d ρ1
theorem je_getK {i : Nat} {px : Pos} (hu : X.A.units + 1 < cLine) (hN : X.N[i]? = some x) (hv : Vis X.env.scope x) (hb : JE X b fb) (hs : NoSl b := by exact fun _ _ => rfl) (hd : (x == ("__debug__" : Str)) = false := by decide) (hcd : (x == ("__classdict__" : Str)) = false := by decide) :
    JE X (.Subscript (.Name x px) b pos) (dGetK i fb) := by
  obtain ⟨tb, pb, kb⟩ := hb.ex
  refine ⟨_, pe_dget hu (pe_var hN hv hd hcd) pb hs, fun T ρ σ H QD Q r h q => ?_⟩
  obtain ⟨h0, h⟩ := h
  obtain ⟨ds0, h0⟩ := Option.isSome_iff_exists.mp h0
  obtain ⟨l, kws, _, hl, _, _⟩ := r.atK h0
  refine ⟨_, hl, kb T ρ σ H _ _ r h fun y ρ1 v H1 r1 p1 v1 h => ?_⟩
  obtain ⟨kvs, k, d, h1, hk, h2, h3⟩ := h
  obtain ⟨l', kws', _, hl', ho', hr'⟩ := r1.atK h1
  rw [hl] at hl'; cases hl'
  obtain rfl := keyD_rp v1 hk
  rcases hr'.val k with ⟨z, _⟩ | ⟨d', u, z, z2, z3⟩
  · rw [z] at h2; cases h2
  · rw [z] at h2; cases h2
    have g := DGet.k (k := k) ho'
    rw [z2] at g
    exact ⟨_, _, rfl, g, q _ _ _ _ r1 p1 z3 h3⟩
/-- k in x, k not in x, x an owned dict -/
def dInK (neg : Bool) (i : Nat) (fb : DE) : DE := fun ρ Q => fb ρ fun y ρ1 => ∃ kvs k, atK ρ1 i = some kvs ∧ keyD y = some k ∧ Q (.bool (if neg then !(valD kvs k).isSome else (valD kvs k).isSome)) ρ1
theorem je_inK {i : Nat} {px : Pos} (hu : X.A.units + 1 < cLine) (hN : X.N[i]? = some x) (hv : Vis X.env.scope x) (hb : JE X b fb) (hm : behindInMarks .In (.Name x px) = false) (hd : (x == ("__debug__" : Str)) = false := by decide) (hcd : (x == ("__classdict__" : Str)) = false := by decide) :
    JE X (.Compare b [.In] [.Name x px] pos) (dInK false i fb) := by
  obtain ⟨tb, pb, kb⟩ := hb.ex
  refine ⟨_, pe_cmp (pc_din hu pb (pe_var hN hv hd hcd)) hm, fun T ρ σ H QD Q r h q => kb T ρ σ H _ _ r h fun y ρ1 v H1 r1 p1 v1 h => ?_⟩
  obtain ⟨kvs, k, h1, hk, h3⟩ := h
  obtain ⟨l', kws', _, hl', ho', hr'⟩ := r1.atK h1
  obtain rfl := keyD_rp v1 hk
  refine ⟨_, hl', l', _, rfl, DGet.k (k := k) ho', q _ _ _ _ r1 p1 (.bl _) ?_⟩
  rcases hr'.val k with ⟨z, z2⟩ | ⟨d', u, z, z2, z3⟩
  · rw [z2]; rw [z] at h3; exact h3
  · rw [z2]; rw [z] at h3; exact h3
theorem je_notinK {i : Nat} {px : Pos} (hu : X.A.units + 1 < cLine) (hN : X.N[i]? = some x) (hv : Vis X.env.scope x) (hb : JE X b fb) (hm : behindInMarks .NotIn (.Name x px) = false) (hd : (x == ("__debug__" : Str)) = false := by decide) (hcd : (x == ("__classdict__" : Str)) = false := by decide) :
    JE X (.Compare b [.NotIn] [.Name x px] pos) (dInK true i fb) := by
  obtain ⟨tb, pb, kb⟩ := hb.ex
  refine ⟨_, pe_cmp (pc_dnotin hu pb (pe_var hN hv hd hcd)) hm, fun T ρ σ H QD Q r h q => kb T ρ σ H _ _ r h fun y ρ1 v H1 r1 p1 v1 h => ?_⟩
  obtain ⟨kvs, k, h1, hk, h3⟩ := h
  obtain ⟨l', kws', _, hl', ho', hr'⟩ := r1.atK h1
  obtain rfl := keyD_rp v1 hk
  refine ⟨_, hl', l', _, rfl, DGet.k (k := k) ho', q _ _ _ _ r1 p1 (.bl _) ?_⟩
  rcases hr'.val k with ⟨z, z2⟩ | ⟨d', u, z, z2, z3⟩
  · rw [z2]; rw [z] at h3; exact h3
  · rw [z2]; rw [z] at h3; exact h3
/-- x[k] = e, x an owned dict -/
def sPutK (i : Nat) (fi fe : DE) : DS := fun E ρ => fe ρ fun d ρ1 => (atK ρ1 i).isSome = true ∧ fi ρ1 fun y ρ2 => ∃ kvs k, atK ρ2 i = some kvs ∧ keyD y = some k ∧ kvs.length < sizeLine ∧ E.nx (ρ2.set i (some (.ow (.dct (putD kvs k d)))))
theorem js_putK {i : Nat} {px ps : Pos} {f1 f2 : DE} (hu : X.A.units + 1 < cLine) (hN : X.N[i]? = some x) (hv : Vis X.env.scope x) (hi : JE X b f1) (he : JE X e f2) (hd : (x == ("__debug__" : Str)) = false := by decide) (hcd : (x == ("__classdict__" : Str)) = false := by decide)
    (hs : swapsWith e (some (.Subscript (.Name x px) b ps)) pos.line X.env = pure false := by rfl) :
    JS X (.Assign [.Subscript (.Name x px) b ps] e pos) (sPutK i f1 f2) := by
  obtain ⟨t1, p1, k1⟩ := hi.ex
  obtain ⟨t2, p2, k2⟩ := he.ex
  refine ⟨_, ps_dput hu (pe_var hN hv hd hcd) p1 p2 hs, fun T ρ σ H E D r h k => k2 T ρ σ H _ _ r h fun d ρ1 v H1 r1 q1 v1 h => ?_⟩
  obtain ⟨h0, h⟩ := h
  obtain ⟨ds0, h0⟩ := Option.isSome_iff_exists.mp h0
  obtain ⟨l, kws, _, hl, _, _⟩ := r1.atK h0
  refine ⟨_, hl, k1 T ρ1 σ H1 _ _ r1 h fun kk ρ2 w H2 r2 q2 v2 h => ?_⟩
  obtain ⟨kvs, ky, h2, hk, h3, h4⟩ := h
  obtain ⟨l', kws', hm', hl', ho', hr'⟩ := r2.atK h2
  rw [hl] at hl'; cases hl'
  obtain rfl := keyD_rp v2 hk
  have hp : RpO X.K (hide (Hd T ρ2 σ) H2) (.dct (putD kvs ky d)) (.dK (putK kws' ky v)) := hr'.put ky (v1.mono q2.fz)
  have r3 := r2.write hm' hl hp (fun _ _ z => nomatch z)
  exact ⟨l, _, rfl, DPut.k ho' (by rw [← hr'.len]; exact h3), k.nx _ _ _ r3 ((q1.trans q2).trans (.write hm' hl)) h4⟩
/-- {} as a dict that the frame owns -/
def xDct : DX := fun ρ Q => Q (.ow (.dct [])) ρ
theorem jx_dct0 : JX X (.Dict [] [] pos) xDct := by
  refine ⟨_, pe_dnewK, fun T ρ σ H QD Q r h q p hp => ?_⟩
  exact q (SV.ow (.dct [])) ρ _ _ ⟨p, .dK [], rfl, hp, upd_same, r.laid hp, (Paired.nil : KvRp X.K _ [] []), fun _ _ z => nomatch z⟩ (.grow (Ex.new hp)) h
theorem hu1 {n : Nat} (h : n + 64 < cLine) : n + 1 < cLine := by omega
theorem jt_inK {i : Nat} {px : Pos} (hu : X.A.units + 1 < cLine) (hN : X.N[i]? = some x) (hv : Vis X.env.scope x) (hb : JE X b fb) (hm : behindInMarks .In (.Name x px) = false) (hd : (x == ("__debug__" : Str)) = false := by decide) (hcd : (x == ("__classdict__" : Str)) = false := by decide) :
    JT X (.Compare b [.In] [.Name x px] pos) (dTst (dInK false i fb)) := by
  obtain ⟨tb, pb, kb⟩ := hb.ex
  refine ⟨_, pt_cmp (pc_din hu pb (pe_var hN hv hd hcd)) hm, fun T ρ σ H QD Q r h q => kb T ρ σ H _ _ r h fun y ρ1 v H1 r1 p1 v1 h => ?_⟩
  obtain ⟨kvs, k, h1, hk, h3⟩ := h
  obtain ⟨l', kws', _, hl', ho', hr'⟩ := r1.atK h1
  obtain rfl := keyD_rp v1 hk
  refine ⟨_, hl', l', _, rfl, DGet.k (k := k) ho', ?_⟩
  refine ⟨_, rfl, q _ _ _ r1 p1 ?_⟩
  rcases hr'.val k with ⟨z, z2⟩ | ⟨d', u, z, z2, z3⟩
  · rw [z2]; rw [z] at h3; exact h3
  · rw [z2]; rw [z] at h3; exact h3
theorem jt_notinK {i : Nat} {px : Pos} (hu : X.A.units + 1 < cLine) (hN : X.N[i]? = some x) (hv : Vis X.env.scope x) (hb : JE X b fb) (hm : behindInMarks .NotIn (.Name x px) = false) (hd : (x == ("__debug__" : Str)) = false := by decide) (hcd : (x == ("__classdict__" : Str)) = false := by decide) :
    JT X (.Compare b [.NotIn] [.Name x px] pos) (dTst (dInK true i fb)) := by
  obtain ⟨tb, pb, kb⟩ := hb.ex
  refine ⟨_, pt_cmp (pc_dnotin hu pb (pe_var hN hv hd hcd)) hm, fun T ρ σ H QD Q r h q => kb T ρ σ H _ _ r h fun y ρ1 v H1 r1 p1 v1 h => ?_⟩
  obtain ⟨kvs, k, h1, hk, h3⟩ := h
  obtain ⟨l', kws', _, hl', ho', hr'⟩ := r1.atK h1
  obtain rfl := keyD_rp v1 hk
  refine ⟨_, hl', l', _, rfl, DGet.k (k := k) ho', ?_⟩
  refine ⟨_, rfl, q _ _ _ r1 p1 ?_⟩
  rcases hr'.val k with ⟨z, z2⟩ | ⟨d', u, z, z2, z3⟩
  · rw [z2]; rw [z] at h3; exact h3
  · rw [z2]; rw [z] at h3; exact h3
theorem js_augI {i : Nat} {px : Pos} (hN : X.N.Nodup) (hi : X.N[i]? = some x) (hx : Loc X.env.scope x) (he : JE X e fa) (hf : X.fn x = true ∨ X.env.scope.names.lookup x = some .local := by first | exact Or.inl rfl | exact Or.inr rfl) :
    JS X (.AugAssign (.Name x px) .Add e pos) (sAugI i fa) := by
  obtain ⟨t, pt, kt⟩ := he.ex
  refine ⟨_, ps_aug hN hi hx pt ip_add hf, fun T ρ σ H E D r h k => ?_⟩
  unfold sAugI at h
  split at h
  · rename_i n hn
    obtain ⟨v, hv, rv⟩ := r.im i _ hn
    cases rv
    refine ⟨_, hv, kt T ρ σ H _ _ r h fun d ρ1 v H1 r1 p1 v1 h => ?_⟩
    split at h
    · cases v1
      exact ⟨_, _, rfl, rfl, k.nx _ _ _ (r1.setIm (.int _)) (p1.trans Po.setIm) h⟩
    · exact h.elim
  · exact h.elim
end
end Dn
set_option Elab.async false
set_option linter.all false
set_option maxRecDepth 100000
set_option autoImplicit false
set_option maxHeartbeats 4000000
/-! targets that change an owned list: x[i], x[j] = a, b -/
namespace Dn
open PySem L2 Evl PySem.Spec PyProof.Rows
section
variable {X : Cx} {a b c e : Expr} {es : List Expr} {fa fb fc : DE} {pos p : Pos} {x y : Str}
structure JGW (X : Cx) (tg : Expr) (g : DG) : Prop where
  ex : ∃ t, PG X tg t ∧ ∀ (T : Addr → Prop) (ρ : Env) (σ : L2.St) (H : Hp) (v : V) (d : D) (QD : Env → Prop) (Q : L2.St → Hp → Prop), RS X.K T ρ σ H → Rp X.K (hide (Hd T ρ σ) H) v d → g d ρ QD →
    (∀ ρ' σ' H', RS X.K T ρ' σ' H' → Po ρ σ H ρ' σ' H' → QD ρ' → Q σ' H') → t v σ H Q
structure JGWs (X : Cx) (tgs : List Expr) (g : List D → Env → (Env → Prop) → Prop) : Prop where
  ex : ∃ t, PGs X tgs t ∧ ∀ (T : Addr → Prop) (ρ : Env) (σ : L2.St) (H : Hp) (us : List V) (ds : List D) (QD : Env → Prop) (Q : L2.St → Hp → Prop), RS X.K T ρ σ H → RpAll X.K (hide (Hd T ρ σ) H) us ds → g ds ρ QD →
    (∀ ρ' σ' H', RS X.K T ρ' σ' H' → Po ρ σ H ρ' σ' H' → QD ρ' → Q σ' H') → t us σ H Q
def gSubW (i : Nat) (fi : DE) : DG := fun d ρ Q => (atO ρ i).isSome = true ∧ fi ρ fun k ρ2 => ∃ ds j m, atO ρ2 i = some ds ∧ k = .int j ∧ ixN ds.length j = some m ∧ Q (setO ρ2 i (ds.set m d))
theorem jgw_sub {i : Nat} {px ps : Pos} {f1 : DE} (hN : X.N[i]? = some x) (hv : Vis X.env.scope x) (hi : JE X b f1) (hd : (x == ("__debug__" : Str)) = false := by decide) (hcd : (x == ("__classdict__" : Str)) = false := by decide)
    (ha : ∀ v, assign (.Subscript (.Name x px) b ps) X.env v = (do
      let ov ← holding [v] (eval (.Name x px) X.env); let iv ← holding [v, ov] (eval b X.env); standAt ps; holding [v, ov, iv] (setItem ov iv v); release [v, ov, iv] []) := by intro _; rfl) : JGW X (.Subscript (.Name x px) b ps) (gSubW i f1) := by
  obtain ⟨t1, p1, k1⟩ := hi.ex
  refine ⟨_, pg_sub (pe_var hN hv hd hcd) p1 set_list ha, fun T ρ σ H v d QD Q r rv h q => ?_⟩
  obtain ⟨h0, h⟩ := h
  obtain ⟨ds0, h0⟩ := Option.isSome_iff_exists.mp h0
  obtain ⟨m, l, vs, _, hl, _, _⟩ := r.atO h0
  refine ⟨_, hl, k1 T ρ σ H _ _ r h fun kk ρ2 w H2 r2 q2 v2 h => ?_⟩
  obtain ⟨ds, j, n, h2, rfl, h3, h4⟩ := h
  obtain ⟨m', l', vs', hm', hl', ho', hr'⟩ := r2.atO h2
  rw [hl] at hl'; cases hl'
  cases v2
  obtain ⟨r3, q3⟩ := r2.setO hm' hl (hr'.set n (rv.mono q2.fz))
  exact ⟨l, vs', j, n, rfl, rfl, ho', by rw [hr'.length]; exact h3, q _ _ _ r3 (q2.trans q3) h4⟩
theorem jgws_nil : JGWs X [] gsNil := ⟨gNil, pgs_nil, fun T ρ σ H us ds QD Q r rv h q => by
  obtain ⟨rfl, h⟩ := h
  cases rv
  exact ⟨rfl, q _ _ _ r .refl h⟩⟩
theorem jgws_cons {g : DG} {gs : List D → Env → (Env → Prop) → Prop} (h1 : JGW X e g) (h2 : JGWs X es gs) (hs : (assignEach (e :: es) X.env).map (·.2) = assign e X.env :: (assignEach es X.env).map (·.2) := by rfl) : JGWs X (e :: es) (gsCons g gs) := by
  obtain ⟨t1, p1, k1⟩ := h1.ex
  obtain ⟨t2, p2, k2⟩ := h2.ex
  refine ⟨_, pgs_cons p1 p2 hs, fun T ρ σ H us ds QD Q r rv h q => ?_⟩
  cases rv with
  | nil => exact False.elim h
  | cons rv rr => exact ⟨_, _, rfl, k1 T ρ σ H _ _ _ _ r rv h fun ρ1 σ1 H1 r1 q1 h => k2 T ρ1 σ1 H1 _ _ _ _ r1 (rr.mono q1.fz) h fun ρ2 σ2 H2 r2 q2 h => q _ _ _ r2 (q1.trans q2) h⟩
theorem jgw_tup {k n : Nat} {gs : List D → Env → (Env → Prop) → Prop} (hc : X.calm = true) (h : JGWs X es gs) (hn : (assignEach es X.env).length = n := by rfl) (hst : (assignEach es X.env).findIdx? (·.1) = none := by rfl) : JGW X (.Tuple es k pos) (gTp n gs) := by
  obtain ⟨t, pt, kt⟩ := h.ex
  refine ⟨_, pg_tup hc pt hn hst, fun T ρ σ H v d QD Q r rv h q => ?_⟩
  cases rv with
  | tup hp rr => exact ⟨_, _, rfl, sqt_of hp, by rw [rr.length]; exact h.1, kt T ρ σ H _ _ _ _ r rr h.2 q⟩
  | _ => exact False.elim h
theorem js_asgW {tg : Expr} {g : DG} (ha : JE X e fa) (hg : JGW X tg g) (hs : swapsWithSole [tg] e pos.line X.env = pure false := by rfl) (hw : swappedStores [tg] e X.env = pure none := by rfl) (h1 : (assignEach [tg] X.env).map (·.2) = [assign tg X.env] := by rfl) : JS X (.Assign [tg] e pos) (sAsg fa g) := by
  obtain ⟨t, pt, kt⟩ := ha.ex
  obtain ⟨t2, p2, k2⟩ := hg.ex
  refine ⟨_, ps_asg pt p2 hs hw h1, fun T ρ σ H E D r h k => kt T ρ σ H _ _ r h fun d ρ1 v H1 r1 q1 v1 h => k2 T ρ1 σ H1 _ _ _ _ r1 v1 h fun ρ2 σ2 H2 r2 q2 h => k.nx _ _ _ r2 (q1.trans q2) h⟩
end
end Dn
set_option Elab.async false
set_option linter.all false
set_option maxRecDepth 100000
set_option autoImplicit false
set_option maxHeartbeats 4000000
/-! dicts as values: handed back, handed in, looked up; list(d), sorted, len(set(t)), t[::-1], t * n -/
namespace Dn
open PySem L2 Evl PySem.Spec PyProof.Rows
theorem RpKv.kv {K : PySem.W.Frag} {G : Hp} : ∀ {kws : List (Key × V)} {kvs : List (Key × D)}, RpKv K G kws kvs → KvRp K G kvs kws
  | _, _, .nil => .nil
  | _, _, .cons h r => .cons ⟨rfl, h⟩ r.kv
theorem KvRp.rp {K : PySem.W.Frag} {G : Hp} {kvs : List (Key × D)} {kws : List (Key × V)} (h : KvRp K G kvs kws) : RpKv K G kws kvs := by
  induction h with
  | nil => exact .nil
  | @cons p q ps qs r t ih =>
    obtain ⟨k, d⟩ := p
    obtain ⟨k2, v⟩ := q
    obtain ⟨r1, r2⟩ := r
    cases r1
    exact .cons r2 ih
theorem keyB_inj {k k' : Key} (h : keyB k = keyB k') : k = k' := by
  cases k <;> cases k' <;> simp [keyB] at h <;> rw [h]
theorem dkD_inj : ∀ {kvs kvs' : List (Key × D)}, dkD kvs = dkD kvs' → kvs = kvs'
  | [], [], _ => rfl
  | [], _ :: _, h => by simp [dkD] at h
  | _ :: _, [], h => by simp [dkD] at h
  | (k, d) :: r, (k', d') :: r', h => by
    simp only [dkD, List.map_cons, List.cons.injEq, Prod.mk.injEq] at h
    obtain ⟨⟨h1, h2⟩, h3⟩ := h
    rw [keyB_inj h1, h2, dkD_inj (kvs := r) (kvs' := r') h3]
theorem dict_rp {K : PySem.W.Frag} {G : Hp} {v : V} {kvs : List (Key × D)} (r : Rp K G v (.dict (dkD kvs))) : ∃ p kws, v = .ref p ∧ G p = some (.dK kws) ∧ KvRp K G kvs kws := by
  generalize e : PyData.dict (dkD kvs) = d at r
  cases r with
  | dct h1 h2 h3 =>
    cases e
    obtain rfl := dkD_inj h3
    exact ⟨_, _, rfl, h1, h2.kv⟩
  | frz h1 h2 =>
    simp only [PyData.dict.injEq] at e
    cases kvs with
    | nil => simp [dkD] at e
    | cons p r => obtain ⟨k, d⟩ := p; cases k <;> simp [dkD, keyB] at e
  | _ => cases e
section
variable {K : PySem.W.Frag} {T : Addr → Prop} {ρ : Env} {σ : L2.St} {H : Hp}
/-- an owned dict is kept no longer -/
theorem RS.freezeK {i : Nat} {kvs : List (Key × D)} (r : RS K T ρ σ H) (hm : ρ[i]? = some (some (SV.ow (.dct kvs)))) : RS K T (ρ.set i (some (SV.im (.dict (dkD kvs))))) σ H := by
  obtain ⟨p, o, hp, ho, hr⟩ := r.ow i _ hm
  have hO : Own ρ σ p := ⟨i, _, hm, hp⟩
  have e : Ex (hide (Hd T ρ σ) H) (hide (Hd T (ρ.set i (some (SV.im (.dict (dkD kvs))))) σ) H) := hide_sub fun a w => w.elim .inl fun w => .inr (own_freeze w)
  have vis : hide (Hd T (ρ.set i (some (SV.im (.dict (dkD kvs))))) σ) H p = some o := hide_some.2 ⟨fun w => by
    rcases w with w | ⟨j, m, h1, h2⟩
    · exact r.dis p w hO
    · rcases getset h1 with ⟨_, _, h⟩ | ⟨ne, h⟩
      · cases h
      · exact ne (r.inj i j _ m p hm h hp h2), ho⟩
  refine ⟨by simp [r.len], fun j d' q => ?_, fun j m1 q => ?_, fun j k m1 m2 a q1 q2 q3 q4 => ?_, fun a t w => r.dis a t (own_freeze w), r.dom, fun j q m1 a q1 q2 => ?_⟩
  · rcases getset q with ⟨e1, l, h1⟩ | ⟨ne, h1⟩
    · cases h1; subst e1
      cases o with
      | dK vs => exact ⟨.ref p, hp, .dct vis (KvRp.rp (KvRp.mono e hr)) rfl⟩
      | _ => exact False.elim hr
    · obtain ⟨u, h2, h3⟩ := r.im j d' h1
      exact ⟨u, h2, h3.mono e⟩
  · rcases getset q with ⟨_, _, h1⟩ | ⟨ne, h1⟩
    · cases h1
    · obtain ⟨a, u, h2, h3, h4⟩ := r.ow j m1 h1
      exact ⟨a, u, h2, h3, h4.mono e⟩
  · rcases getset q1 with ⟨_, _, h1⟩ | ⟨_, h1⟩
    · cases h1
    · rcases getset q2 with ⟨_, _, h2⟩ | ⟨_, h2⟩
      · cases h2
      · exact r.inj j k m1 m2 a h1 h2 q3 q4
  · rcases getset q1 with ⟨_, _, h1⟩ | ⟨_, h1⟩
    · cases h1
    · exact r.tag j q m1 a h1 q2
end
section
variable {X : Cx} {a b c e : Expr} {fa fb fc : DE} {pos p : Pos} {es : List Expr} {x y : Str}
/-- return x, x an owned dict -/
def sRetK (i : Nat) : DS := fun E ρ => ∃ kvs, atK ρ i = some kvs ∧ E.rt (.dict (dkD kvs)) (ρ.set i (some (.im (.dict (dkD kvs)))))
theorem js_retK {i : Nat} {px : Pos} (hN : X.N[i]? = some x) (hv : Vis X.env.scope x) (hd : (x == ("__debug__" : Str)) = false := by decide) (hcd : (x == ("__classdict__" : Str)) = false := by decide) : JS X (.Return (some (.Name x px)) pos) (sRetK i) := by
  refine ⟨_, ps_ret (pe_var hN hv hd hcd), fun T ρ σ H E D r h k => ?_⟩
  obtain ⟨kvs, h1, h2⟩ := h
  have hm := atK_some h1
  have rf := r.freezeK hm
  obtain ⟨v, hv, rv⟩ := rf.im i _ (List.getElem?_set_self (List.getElem?_eq_some_iff.mp hm).1)
  exact ⟨v, hv, k.rt _ _ _ _ _ rf .freeze rv h2⟩
/-- {k: v} as a dict that the frame owns -/
def xDct1 (fk fv : DE) : DX := fun ρ Q => fk ρ fun y ρ1 => fv ρ1 fun d ρ2 => ∃ k, keyD y = some k ∧ Q (.ow (.dct [(k, d)])) ρ2
theorem jx_dct1 {k v : Expr} {fk fv : DE} (hk : JE X k fk) (hv : JE X v fv) : JX X (.Dict [some k] [v] pos) (xDct1 fk fv) := by
  obtain ⟨tk, pk, kk⟩ := hk.ex
  obtain ⟨tv, pv, kv⟩ := hv.ex
  refine ⟨_, pe_disp (pps_cons pk pv pps_nil) rfl rfl (by simp) (by simp), fun T ρ σ H QD Q r h q p hp => ?_⟩
  have r0 := r.laid (o := .dK []) hp
  refine kk (plus T p) ρ σ _ _ _ r0 h fun y ρ1 vk H1 r1 p1 v1 h => kv (plus T p) ρ1 σ H1 _ _ r1 h fun d ρ2 vv H2 r2 p2 v2 h => ?_
  obtain ⟨k, hk, h⟩ := h
  obtain rfl := keyD_rp v1 hk
  have q0 : (upd H p (.dK [])) p = some (.dK []) := upd_same
  have n0 : ¬ Own ρ σ p := r0.dis p (.inl rfl)
  have n1 : ¬ Own ρ1 σ p := r1.dis p (.inl rfl)
  have n2 : ¬ Own ρ2 σ p := r2.dis p (.inl rfl)
  have a2 : H2 p = some (.dK []) := p2.keep p _ n1 (p1.keep p _ n0 q0)
  refine ⟨a2, [(k, vv)], rfl, by simp, ?_⟩
  have hmk : mergeK [] [(k, vv)] = [(k, vv)] := rfl
  rw [hmk]
  -- the heap behind it
  have e2 : Ex (hide (Hd (plus T p) ρ2 σ) H2) (hide (Hd (plus T p) ρ2 σ) (upd H2 p (.dK [(k, vv)]))) := fun a o w => by
    obtain ⟨w1, w2⟩ := hide_some.1 w
    exact hide_some.2 ⟨w1, by rw [upd_ne (fun z => w1 (.inl (.inl z)))]; exact w2⟩
  have r3 : RS X.K (plus T p) ρ2 σ (upd H2 p (.dK [(k, vv)])) := by
    refine ⟨r2.len, fun i d q => ?_, fun i m q => ?_, r2.inj, r2.dis, fun a t => ?_, r2.tag⟩
    · obtain ⟨v, h1, h2⟩ := r2.im i d q; exact ⟨v, h1, h2.mono e2⟩
    · obtain ⟨a, u, h1, h2, h3⟩ := r2.ow i m q
      exact ⟨a, u, h1, by rw [upd_ne (fun z => n2 (by rw [← z]; exact ⟨i, m, q, h1⟩))]; exact h2, h3.mono e2⟩
    · by_cases z : a = p
      · subst z; rw [upd_same]; simp
      · rw [upd_ne z]; exact r2.dom a t
  have pz : Po ρ σ H ρ2 σ (upd H2 p (.dK [(k, vv)])) := by
    have pt := p1.trans p2
    refine ⟨fun a o n w => ?_, fun a w => ?_, fun a w => ?_⟩
    · have ne : a ≠ p := fun z => by subst z; rw [hp] at w; cases w
      rw [upd_ne ne]
      exact pt.keep a o n (by rw [upd_ne ne]; exact w)
    · rcases pt.own a w with z | z
      · exact .inl z
      · refine .inr ?_
        by_cases ne : a = p
        · subst ne; exact hp
        · rw [upd_ne ne] at z; exact z
    · by_cases ne : a = p
      · subst ne; rw [upd_same]; simp
      · rw [upd_ne ne]
        exact pt.dom a (by rw [upd_ne ne]; exact w)
  refine q (SV.ow (.dct [(k, d)])) ρ2 _ _ ⟨p, _, rfl, hp, upd_same, r3, ?_, fun _ _ z => nomatch z⟩ pz h
  exact (Paired.cons ⟨rfl, v2.mono e2⟩ Paired.nil : KvRp X.K _ [(k, d)] [(k, vv)])
/-- d[k], k in d, d.get(k), d a dict that nobody changes -/
theorem DGet.of {H : Hp} {q : Addr} {kws : List (Key × V)} {k : Key} (h : H q = some (.dK kws)) : DGet H q (kV k) (valV kws k) := DGet.k h
def dGetD (fa fb : DE) : DE := fun ρ Q => fa ρ fun z ρ1 => fb ρ1 fun y ρ2 => ∃ kvs k d, z = .dict (dkD kvs) ∧ keyD y = some k ∧ valD kvs k = some d ∧ Q d ρ2
theorem je_getD (hu : X.A.units + 1 < cLine) (ha : JE X a fa) (hb : JE X b fb) (hs : NoSl b := by exact fun _ _ => rfl) : JE X (.Subscript a b pos) (dGetD fa fb) := by
  obtain ⟨ta, pa, ka⟩ := ha.ex
  obtain ⟨tb, pb, kb⟩ := hb.ex
  refine ⟨_, pe_dget hu pa pb hs, fun T ρ σ H QD Q r h q => ka T ρ σ H _ _ r h fun z ρ1 v H1 r1 p1 v1 h => kb T ρ1 σ H1 _ _ r1 h fun y ρ2 w H2 r2 p2 v2 h => ?_⟩
  obtain ⟨kvs, k, d, rfl, hk, h2, h3⟩ := h
  obtain rfl := keyD_rp v2 hk
  obtain ⟨l, kws, rfl, hl, hr⟩ := dict_rp (v1.mono p2.fz)
  rcases hr.val k with ⟨z, _⟩ | ⟨d', u, z, z2, z3⟩
  · rw [z] at h2; cases h2
  · rw [z] at h2; cases h2
    have g := DGet.k (k := k) (at_of hl)
    rw [z2] at g
    exact ⟨_, _, rfl, g, q _ _ _ _ r2 (p1.trans p2) z3 h3⟩
def dInD (neg : Bool) (fb fa : DE) : DE := fun ρ Q => fb ρ fun y ρ1 => fa ρ1 fun z ρ2 => ∃ kvs k, z = .dict (dkD kvs) ∧ keyD y = some k ∧ Q (.bool (if neg then !(valD kvs k).isSome else (valD kvs k).isSome)) ρ2
theorem je_inD (hu : X.A.units + 1 < cLine) (hb : JE X b fb) (ha : JE X a fa) (hm : behindInMarks .In a = false) : JE X (.Compare b [.In] [a] pos) (dInD false fb fa) := by
  obtain ⟨ta, pa, ka⟩ := ha.ex
  obtain ⟨tb, pb, kb⟩ := hb.ex
  refine ⟨_, pe_cmp (pc_din hu pb pa) hm, fun T ρ σ H QD Q r h q => kb T ρ σ H _ _ r h fun y ρ1 v H1 r1 p1 v1 h => ka T ρ1 σ H1 _ _ r1 h fun z ρ2 w H2 r2 p2 v2 h => ?_⟩
  obtain ⟨kvs, k, rfl, hk, h3⟩ := h
  obtain rfl := keyD_rp v1 hk
  obtain ⟨l, kws, rfl, hl, hr⟩ := dict_rp v2
  refine ⟨l, _, rfl, DGet.k (k := k) (at_of hl), q _ _ _ _ r2 (p1.trans p2) (.bl _) ?_⟩
  rcases hr.val k with ⟨z, z2⟩ | ⟨d', u, z, z2, z3⟩
  · rw [z2]; rw [z] at h3; exact h3
  · rw [z2]; rw [z] at h3; exact h3
theorem je_notinD (hu : X.A.units + 1 < cLine) (hb : JE X b fb) (ha : JE X a fa) (hm : behindInMarks .NotIn a = false) : JE X (.Compare b [.NotIn] [a] pos) (dInD true fb fa) := by
  obtain ⟨ta, pa, ka⟩ := ha.ex
  obtain ⟨tb, pb, kb⟩ := hb.ex
  refine ⟨_, pe_cmp (pc_dnotin hu pb pa) hm, fun T ρ σ H QD Q r h q => kb T ρ σ H _ _ r h fun y ρ1 v H1 r1 p1 v1 h => ka T ρ1 σ H1 _ _ r1 h fun z ρ2 w H2 r2 p2 v2 h => ?_⟩
  obtain ⟨kvs, k, rfl, hk, h3⟩ := h
  obtain rfl := keyD_rp v1 hk
  obtain ⟨l, kws, rfl, hl, hr⟩ := dict_rp v2
  refine ⟨l, _, rfl, DGet.k (k := k) (at_of hl), q _ _ _ _ r2 (p1.trans p2) (.bl _) ?_⟩
  rcases hr.val k with ⟨z, z2⟩ | ⟨d', u, z, z2, z3⟩
  · rw [z2]; rw [z] at h3; exact h3
  · rw [z2]; rw [z] at h3; exact h3
theorem jt_inD (hu : X.A.units + 1 < cLine) (hb : JE X b fb) (ha : JE X a fa) (hm : behindInMarks .In a = false) : JT X (.Compare b [.In] [a] pos) (dTst (dInD false fb fa)) := by
  obtain ⟨ta, pa, ka⟩ := ha.ex
  obtain ⟨tb, pb, kb⟩ := hb.ex
  refine ⟨_, pt_cmp (pc_din hu pb pa) hm, fun T ρ σ H QD Q r h q => kb T ρ σ H _ _ r h fun y ρ1 v H1 r1 p1 v1 h => ka T ρ1 σ H1 _ _ r1 h fun z ρ2 w H2 r2 p2 v2 h => ?_⟩
  obtain ⟨kvs, k, rfl, hk, h3⟩ := h
  obtain rfl := keyD_rp v1 hk
  obtain ⟨l, kws, rfl, hl, hr⟩ := dict_rp v2
  refine ⟨l, _, rfl, DGet.k (k := k) (at_of hl), ?_⟩
  refine ⟨_, rfl, q _ _ _ r2 (p1.trans p2) ?_⟩
  rcases hr.val k with ⟨z, z2⟩ | ⟨d', u, z, z2, z3⟩
  · rw [z2]; rw [z] at h3; exact h3
  · rw [z2]; rw [z] at h3; exact h3
theorem jt_notinD (hu : X.A.units + 1 < cLine) (hb : JE X b fb) (ha : JE X a fa) (hm : behindInMarks .NotIn a = false) : JT X (.Compare b [.NotIn] [a] pos) (dTst (dInD true fb fa)) := by
  obtain ⟨ta, pa, ka⟩ := ha.ex
  obtain ⟨tb, pb, kb⟩ := hb.ex
  refine ⟨_, pt_cmp (pc_dnotin hu pb pa) hm, fun T ρ σ H QD Q r h q => kb T ρ σ H _ _ r h fun y ρ1 v H1 r1 p1 v1 h => ka T ρ1 σ H1 _ _ r1 h fun z ρ2 w H2 r2 p2 v2 h => ?_⟩
  obtain ⟨kvs, k, rfl, hk, h3⟩ := h
  obtain rfl := keyD_rp v1 hk
  obtain ⟨l, kws, rfl, hl, hr⟩ := dict_rp v2
  refine ⟨l, _, rfl, DGet.k (k := k) (at_of hl), ?_⟩
  refine ⟨_, rfl, q _ _ _ r2 (p1.trans p2) ?_⟩
  rcases hr.val k with ⟨z, z2⟩ | ⟨d', u, z, z2, z3⟩
  · rw [z2]; rw [z] at h3; exact h3
  · rw [z2]; rw [z] at h3; exact h3
def dGet1 (fa fb : DE) : DE := fun ρ Q => fa ρ fun z ρ1 => (∃ kvs, z = .dict (dkD kvs)) ∧ fb ρ1 fun y ρ2 => ∃ kvs k, z = .dict (dkD kvs) ∧ keyD y = some k ∧ Q ((valD kvs k).getD .none) ρ2
theorem je_get1 {apos cpos : Pos} (hu : X.A.units + 1 < cLine) (ha : JE X a fa) (hb : JE X b fb) (m : M1 X a "get" apos b cpos) : JE X (.Call (.Attribute a "get" apos) [b] [] cpos) (dGet1 fa fb) := by
  obtain ⟨ta, pa, ka⟩ := ha.ex
  obtain ⟨tb, pb, kb⟩ := hb.ex
  refine ⟨_, pe_dget1 hu pa pb m, fun T ρ σ H QD Q r h q => ka T ρ σ H _ _ r h fun z ρ1 v H1 r1 p1 v1 h => ?_⟩
  obtain ⟨⟨kvs0, e0⟩, h⟩ := h
  subst e0
  obtain ⟨l0, kws0, rfl, hl0, _⟩ := dict_rp v1
  refine ⟨_, rfl, .inl ⟨_, .inl (at_of hl0)⟩, kb T ρ1 σ H1 _ _ r1 h fun y ρ2 w H2 r2 p2 v2 h => ?_⟩
  obtain ⟨kvs, k, e, hk, h3⟩ := h
  rw [PyData.dict.injEq] at e
  obtain rfl := dkD_inj e
  obtain rfl := keyD_rp v2 hk
  obtain ⟨l, kws, e2, hl, hr⟩ := dict_rp (v1.mono p2.fz)
  cases e2
  refine ⟨_, DGet.k (k := k) (at_of hl), ?_⟩
  rcases hr.val k with ⟨z, z2⟩ | ⟨d', u, z, z2, z3⟩
  · rw [z2]; rw [z] at h3; exact q _ _ _ _ r2 (p1.trans p2) .non h3
  · rw [z2]; rw [z] at h3; exact q _ _ _ _ r2 (p1.trans p2) z3 h3
/-- list(d) -/
def lKeys (fa : DE) : DL := fun ρ Q => fa ρ fun z ρ1 => ∃ kvs, z = .dict (dkD kvs) ∧ Q (kvs.map fun p => keyB p.1) ρ1
theorem keys_rp {K : PySem.W.Frag} {G : Hp} {kvs : List (Key × D)} {kws : List (Key × V)} (h : KvRp K G kvs kws) (G' : Hp) : RpAll K G' (kws.map fun kv => kV kv.1) (kvs.map fun p => keyB p.1) := by
  induction h with
  | nil => exact .nil
  | @cons p q ps qs r t ih =>
    rw [List.map_cons, List.map_cons, ← r.1]
    refine .cons ?_ ih
    cases p.1 with
    | inl i => exact .int i
    | inr s => exact .str s
theorem jl_keys (hc : X.calm = true) (hm : X.mg "list" = none) (ha : JE X a fa) (hg : Gl X "list" := by rfl) (he : starEach [a] X.env = (false, eval a X.env) :: starEach [] X.env := by rfl) : JL X (.Call (.Name "list" p) [a] [] pos) (lKeys fa) := by
  obtain ⟨ta, pa, ka⟩ := ha.ex
  refine ⟨_, pe_callTy (call_list_dK hc) hg hm (by decide +kernel) (pa_cons pa pa_nil he) (by decide) (by decide) he, fun T ρ σ H QD Q r h q => ka T ρ σ H _ _ r h fun d ρ1 v H1 r1 p1 v1 h => ?_⟩
  obtain ⟨kvs, rfl, h⟩ := h
  obtain ⟨l, kws, rfl, hl, hr⟩ := dict_rp v1
  exact ⟨_, _, rfl, at_of hl, fun l2 hl2 => q _ _ _ _ _ (none_back p1 hl2) upd_same (r1.laid hl2) (keys_rp hr _) (p1.trans (.grow (Ex.new hl2))) h⟩
/-- sorted(l), ints -/
def lSort (fa : DE) : DL := fun ρ Q => fa ρ fun z ρ1 => ∃ ns : List Int, seqD z = some (ns.map PyData.int) ∧ (∃ ds, z = .list ds) ∧ ∀ ns' : List Int, ns'.Perm ns → ns'.Pairwise (· ≤ ·) → Q (ns'.map PyData.int) ρ1
theorem jl_sort (hm : X.mg "sorted" = none) (ha : JE X a fa) (hg : Gl X "sorted" := by rfl) (he : starEach [a] X.env = (false, eval a X.env) :: starEach [] X.env := by rfl) : JL X (.Call (.Name "sorted" p) [a] [] pos) (lSort fa) := by
  obtain ⟨ta, pa, ka⟩ := ha.ex
  refine ⟨_, pe_callB cr_sortedI hg hm (by decide +kernel) (pa_cons pa pa_nil he) (by decide) (by decide) he (by rfl), fun T ρ σ H QD Q r h q => ka T ρ σ H _ _ r h fun d ρ1 v H1 r1 p1 v1 h => ?_⟩
  obtain ⟨ns, e, ⟨ds, rfl⟩, h⟩ := h
  cases v1 with
  | lst hp rr =>
    cases e
    obtain rfl := rr.of_ints
    exact ⟨_, ns, rfl, .inl (.inl (at_of hp)), fun ns' l h1 h2 hl => q _ _ _ _ _ (none_back p1 hl) upd_same (r1.laid hl) (RpAll.ints ns') (p1.trans (.grow (Ex.new hl))) (h ns' h1 h2)⟩
end
end Dn
set_option Elab.async false
set_option linter.all false
set_option maxRecDepth 100000
set_option autoImplicit false
set_option maxHeartbeats 4000000
/-! len(set(t)), t[::-1], t * n, lcm -/
namespace Dn
open PySem L2 Evl PySem.Spec PyProof.Rows
/-! ### len(set(t)), t a tuple of ints -/
theorem erase_perm {l : List Int} {x : Int} (h : x ∈ l) : (x :: l.erase x).Perm l := (List.perm_cons_erase h).symm
theorem nodup_iff_len : ∀ (l ns : List Int), l.Nodup → (∀ k, k ∈ l ↔ k ∈ ns) → l.length ≤ ns.length ∧ (l.length = ns.length ↔ ns.Nodup)
  | [], ns, _, h => by
    cases ns with
    | nil => simp
    | cons x r => exact absurd ((h x).2 (by simp)) (by simp)
  | x :: l, ns, hd, h => by
    have hx : x ∈ ns := (h x).1 (by simp)
    have hd2 := List.nodup_cons.mp hd
    have p := erase_perm hx
    by_cases hy : x ∈ ns.erase x
    · -- x stands twice
      have h2 : ∀ k, k ∈ l ↔ k ∈ (ns.erase x).filter (fun z => decide (z ≠ x)) := fun k => by
        simp only [List.mem_filter, decide_eq_true_eq]
        constructor
        · intro hk
          have ne : k ≠ x := fun z => hd2.1 (by rw [← z]; exact hk)
          have : k ∈ x :: ns.erase x := p.mem_iff.2 ((h k).1 (by simp [hk]))
          rcases List.mem_cons.mp this with z | z
          · exact absurd z ne
          · exact ⟨z, ne⟩
        · rintro ⟨hk, ne⟩
          have : k ∈ ns := p.mem_iff.1 (by simp [hk])
          rcases List.mem_cons.mp ((h k).2 this) with z | z
          · exact absurd z ne
          · exact z
      have ih := nodup_iff_len l _ hd2.2 h2
      have lt : ((ns.erase x).filter (fun z => decide (z ≠ x))).length < (ns.erase x).length := by
        have := List.length_filter_lt_length_iff_exists (p := fun z => decide (z ≠ x)) (l := ns.erase x)
        exact this.2 ⟨x, hy, by simp⟩
      have e := p.length_eq
      simp only [List.length_cons] at e ⊢
      refine ⟨by omega, fun z => by omega, fun z => ?_⟩
      exact absurd (p.nodup_iff.2 z) (by simp [hy])
    · have h2 : ∀ k, k ∈ l ↔ k ∈ ns.erase x := fun k => by
        constructor
        · intro hk
          have ne : k ≠ x := fun z => hd2.1 (by rw [← z]; exact hk)
          have : k ∈ x :: ns.erase x := p.mem_iff.2 ((h k).1 (by simp [hk]))
          rcases List.mem_cons.mp this with z | z
          · exact absurd z ne
          · exact z
        · intro hk
          have : k ∈ ns := p.mem_iff.1 (by simp [hk])
          rcases List.mem_cons.mp ((h k).2 this) with z | z
          · rw [z] at hk; exact absurd hk hy
          · exact z
      have ih := nodup_iff_len l _ hd2.2 h2
      have e := p.length_eq
      simp only [List.length_cons] at e ⊢
      refine ⟨by omega, fun z => ?_, fun z => ?_⟩
      · exact p.nodup_iff.1 (List.nodup_cons.mpr ⟨hy, ih.2.1 (by omega)⟩)
      · have := ih.2.2 (List.nodup_cons.mp (p.nodup_iff.2 z)).2
        omega
section
variable {X : Cx} {a b c e : Expr} {fa fb fc : DE} {pos p : Pos} {es : List Expr} {x y : Str}
def tLenSetT (K : PySem.W.Frag) (ta : TE) : TE := fun σ H Q => ta σ H fun x H1 => ∃ (l : Addr) (ns : List Int), x = V.ref l ∧ SqT K H1 l (ns.map V.int) ∧ ns.length ≤ 4000 ∧ ∀ n : Nat, (n = ns.length ↔ ns.Nodup) → Q (.int n) H1
theorem pe_lenSetT {a : Expr} {ta : TE} {p p2 q pos : Pos} (hc : X.calm = true) (hg : Gl X "len") (hm : X.mg "len" = none) (hg2 : Gl X "set") (hm2 : X.mg "set" = none) (ha : PE X a ta)
    (na : starEach [a] X.env = (false, eval a X.env) :: starEach [] X.env := by rfl) : PE X (.Call (.Name "len" p) [.Call (.Name "set" p2) [a] [] q] [] pos) (tLenSetT X.K ta) := by
  refine ⟨fun pins s σ H Q I h => ?_⟩
  refine Call_ (ld_blt I hg hm PySem.boot_len ?_)
  refine PyProof.Rows.callWith_builtin1 (PyProof.Rows.args_cons ?_ rfl) rfl rfl
  refine Call_ (ld_blt I hg2 hm2 PyProof.Rows.boot_set ?_)
  refine PyProof.Rows.callWith_type1 (PyProof.Rows.args_cons (thn (ha.run pins s σ H _ I h) fun v s1 ⟨x, H1, I1, r1, q1⟩ => PyProof.Rows.args_nil ?_) na) na rfl
  obtain ⟨l, ns, rfl, hq, h1, q1⟩ := q1
  cases r1
  obtain ⟨its, r, pl, hz⟩ := I1.tuple hq
  refine call_set_tupI ns (I1.ok.hd hc) pl (by simpa using r.ints) (by unfold scanBound; omega) fun h' tk c R hc2 hk => ?_
  refine PyProof.Rows.args_nil ?_
  obtain ⟨o, es, ep, t, ho, hex, hd, _, nd, hm, hb, hf, hn, _⟩ := R
  have I2 : Inv X pins σ H1 { s1 with heap := h', toks := tk } := I1.kept fun b o e => hk b o e
  have hl := nodup_iff_len _ ns nd fun k => by rw [← hm k]; simp
  rw [List.length_map, Array.length_toList] at hl
  refine call_len_set ho hex hd hf (by omega) ⟨.int es.size, H1, I2.tok _, ⟨_, rfl⟩, q1 _ hl.2⟩
def dLenSet (fa : DE) : DE := fun ρ Q => fa ρ fun z ρ1 => ∃ ns : List Int, z = .tuple (ns.map PyData.int) ∧ ns.length ≤ 4000 ∧ ∀ n : Nat, (n = ns.length ↔ ns.Nodup) → Q (.int n) ρ1
theorem je_lenSet {p2 q : Pos} (hc : X.calm = true) (hm : X.mg "len" = none) (hm2 : X.mg "set" = none) (ha : JE X a fa) (hg : Gl X "len" := by rfl) (hg2 : Gl X "set" := by rfl)
    (na : starEach [a] X.env = (false, eval a X.env) :: starEach [] X.env := by rfl) : JE X (.Call (.Name "len" p) [.Call (.Name "set" p2) [a] [] q] [] pos) (dLenSet fa) := by
  obtain ⟨ta, pa, ka⟩ := ha.ex
  refine ⟨_, pe_lenSetT hc hg hm hg2 hm2 pa na, fun T ρ σ H QD Q r h q => ka T ρ σ H _ _ r h fun z ρ1 v H1 r1 p1 v1 h => ?_⟩
  obtain ⟨ns, rfl, h1, h2⟩ := h
  cases v1 with
  | tup hp rr =>
    obtain rfl := rr.of_ints
    exact ⟨_, ns, rfl, sqt_of hp, h1, fun n hn => q _ _ _ _ r1 p1 (.int _) (h2 n hn)⟩

/-! ### t[::-1] -/
theorem sliceApplied_rev {prog : Program} {w : World} {A : Around} {E : Value → Shared → Prop} {s : Shared} {sl : Addr} {t : Tok} {n : Nat} {Q : Int × Int × Nat → Shared → Prop} (hs : s.heap.IsSliceOf sl .none .none (.int (-1) t))
    (h : Q ((n : Int) - 1, -1, n) s) : wpAny (model prog w) A (Builtin.Slice.sliceApplied (.ref sl) (pure (n : Int))) Q E s := by
  obtain ⟨os, hos, hcs, hds⟩ := id hs
  unfold Builtin.Slice.sliceApplied Builtin.Slice.sliceFields
  refine wpAny_bind (wpAny_bind (wpAny_field hos hds (x := .none) rfl (wpAny_bind (wpAny_field hos hds (x := .none) rfl (wpAny_bind (wpAny_field hos hds (x := .int (-1) t) rfl (wpAny_pure ?_)))))))
  refine wpAny_bind (slicePart_int ?_)
  show wpAny _ _ (if ((-1 : Int) == 0) = true then _ else _) _ _ s
  rw [if_neg (by decide)]
  refine wpAny_bind (slicePart_none (wpAny_bind (slicePart_none (wpAny_bind (wpAny_pure ?_)))))
  show wpAny _ _ (match Builtin.Slice.sliceAdjust none none (-1) (n : Int) with | (lo, hi) => pure (lo, (-1 : Int), Builtin.Slice.slicePlaces lo hi (-1))) _ _ s
  have e1 : Builtin.Slice.sliceAdjust none none (-1) (n : Int) = ((n : Int) - 1, -1) := by
    unfold Builtin.Slice.sliceAdjust
    have h1 : (-1 : Int) < 0 := by omega
    simp only [h1, if_true]
  rw [e1]
  show wpAny _ _ (pure ((n : Int) - 1, (-1 : Int), Builtin.Slice.slicePlaces ((n : Int) - 1) (-1) (-1))) _ _ s
  have e2 : Builtin.Slice.slicePlaces ((n : Int) - 1) (-1) (-1) = n := by
    unfold Builtin.Slice.slicePlaces
    have h1 : ¬ ((-1 : Int) > 0) := by omega
    simp only [h1, if_false]
    by_cases hn : n = 0
    · subst hn; simp
    · have h2 : (-1 : Int) < (n : Int) - 1 := by omega
      simp [h2]
  rw [e2]
  exact wpAny_pure h
theorem fmap_some {α β : Type} {f : α → Option β} {g : α → β} : ∀ {l : List α}, (∀ m, m ∈ l → f m = some (g m)) → l.filterMap f = l.map g
  | [], _ => rfl
  | x :: l, h => by rw [List.filterMap_cons, h x (by simp), List.map_cons, fmap_some fun m hm => h m (by simp [hm])]
theorem pick_rev (items : List Value) : ((List.range items.length).filterMap fun (m : Nat) => items.toArray[((items.length : Int) - 1 + (m : Int) * (-1)).toNat]?) = items.reverse := by
  apply List.ext_getElem?
  intro i
  have e : ∀ m, m ∈ List.range items.length → items.toArray[((items.length : Int) - 1 + (m : Int) * (-1)).toNat]? = some ((fun m => items.getD (items.length - 1 - m) .none) m) := fun m hm => by
    have := List.mem_range.mp hm
    have h1 : ((items.length : Int) - 1 + (m : Int) * (-1)).toNat = items.length - 1 - m := by omega
    rw [h1]
    simp [List.getD]
    rw [List.getElem?_eq_getElem (by omega)]
    simp
  rw [fmap_some e]
  by_cases hi : i < items.length
  · rw [List.getElem?_map, List.getElem?_range hi, List.getElem?_reverse hi]
    simp [List.getD]
    rw [List.getElem?_eq_getElem (by omega)]
    simp
  · rw [List.getElem?_eq_none_iff.mpr (by simp; omega), List.getElem?_eq_none_iff.mpr (by simp; omega)]
theorem getItem_tuple_rev {prog : Program} {w : World} {A : Around} {E : Value → Shared → Prop} {s : Shared} {t sl : Addr} {items : List Value} {tk : Tok} {Q : Value → Shared → Prop} (ht : IsTup s.heap t items.toArray) (hs : s.heap.IsSliceOf sl .none .none (.int (-1) tk))
    (h : Q (.ref s.heap.objs.size) { s with heap := s.heap.push { cls := .type "tuple", data := .seq items.reverse.toArray } }) (hsz : items.length ≤ sizeLine) : wpAny (model prog w) A (getItem (.ref t) (.ref sl)) Q E s := by
  have htake : sizeOk (.seq items.reverse.toArray) := by
    show items.reverse.toArray.size ≤ sizeLine
    rw [List.size_toArray, List.length_reverse]; exact hsz
  obtain ⟨os, hos, hcs, hds⟩ := id hs
  have hTs : s.TypeIs (.ref sl) "slice" := ⟨os, hos, hcs⟩
  unfold getItem
  try with_reducible refine wpAny_holding ?_
  first | refine wpAny_bind (wpAny_pure ?_) | skip
  refine wpAny_bind (wpAny_sequenceKey ht.typeIs (by decide) ?_)
  refine wpAny_bind (wpAny_callSpecial?_slot (name := Str.ofString "__getitem__") ht.typeIs PyProof.Rows.slot_tuple_getitem
    (wpAny_call_entry PyProof.Rows.slot_tuple_getitem ht.typeIs entry_tuple_getitem ?_ (args_tuple_getitem _ _)))
  show wpAny _ _ (Builtin.Tuple.tupleItemsOf (.ref t) >>= _) _ _ s
  refine wpAny_bind (tupleItemsOf_ ht ?_)
  refine wpAny_bind (wpAny_typeOf hTs ?_)
  rw [if_pos (by decide)]
  refine wpAny_bind (sliceApplied_rev hs ?_)
  rw [List.size_toArray]
  show wpAny _ _ (if ((((items.length : Int) - 1) == 0 && (-1 : Int) == 1 && items.length == items.length) = true) then _ else _) _ _ s
  rw [if_neg (by simp), pick_rev]
  first
    | exact wpAny_bind (m := Builtin.Tuple.tupleExact _) (wpAny_newObj_type (wpAny_pure ⟨_, rfl, wpAny_pure h⟩) htake)
    | exact wpAny_bind (m := Builtin.Tuple.tupleExact _) (wpAny_newObj_type (wpAny_bind (wpAny_pure (wpAny_pure ⟨_, rfl, wpAny_pure h⟩))) htake)
def tRevT (K : PySem.W.Frag) (te : TE) : TE := fun σ H Q => te σ H fun x H1 => ∃ a xs, x = V.ref a ∧ SqT K H1 a xs ∧ ∀ p, H1 p = none → Q (.ref p) (upd H1 p (.tup xs.reverse))
theorem pe_revT {e : Expr} {te : TE} {k : Nat} {p1 p2 p3 pos : Pos} (he : PE X e te) : PE X (.Subscript e (.Slice none none (some (.UnaryOp .USub (.Constant (.int 1) k p1) p2)) p3) pos) (tRevT X.K te) := by
  refine ⟨fun pins s σ H Q I h => ?_⟩
  refine Subscript_ (thn (he.run pins s σ H _ I h) fun v s1 ⟨x, H1, I1, r1, q1⟩ => ?_)
  obtain ⟨a, xs, ex, hx, q⟩ := q1
  subst ex
  cases r1
  have hst : PO X (some (.UnaryOp .USub (.Constant (.int 1) k p1) p2)) (tPart (tUn (rU fun i => .int (-i)) (tC (.int 1)))) := po_some (pe_un un_neg pe_int)
  refine wpAny_Slice (thn (po_none.run pins s1 σ H1 (fun o H2 => o = none ∧ H2 = H1) I1 ⟨rfl, rfl⟩) fun vl s2 ⟨l, H2, I2, pl, el, e2⟩ => ?_)
  subst el e2
  refine thn (po_none.run pins s2 σ H2 (fun o H3 => o = none ∧ H3 = H2) I2 ⟨rfl, rfl⟩) fun vu s3 ⟨u, H3, I3, pu, eu, e3⟩ => ?_
  subst eu e3
  refine thn (hst.run pins s3 σ H3 (fun o H4 => o = some (-1) ∧ H4 = H3) I3 ⟨1, rfl, -1, rfl, rfl, rfl⟩) fun vs s4 ⟨o, H4, I4, ps, eo, e4⟩ => ?_
  subst eo e4
  obtain rfl : vl = .none := by cases pl; rfl
  obtain rfl : vu = .none := by cases pu; rfl
  obtain ⟨tk, rfl⟩ : ∃ tk, vs = .int (-1) tk := by cases ps; exact ⟨_, rfl⟩
  have I5 : L2.Inv X pins σ H4 { s4 with heap := s4.heap.push { cls := .type "slice", data := .fields #[.none, .none, .int (-1) tk] } } := I4.kept (t' := s4.toks) fun b ob q => Heap.get?_push_of_some _ q
  obtain ⟨its, r, ht, hz⟩ := I5.tuple hx
  show wpAny (model X.prog X.w) X.A (subscriptTail e (.Slice none none (some (.UnaryOp .USub (.Constant (.int 1) k p1) p2)) p3) (.ref a) (.ref s4.heap.objs.size)) (EP X pins σ Q) X.xe { s4 with heap := s4.heap.push { cls := .type "slice", data := .fields #[.none, .none, .int (-1) tk] } }
  refine tail_any (ops := [.ref a, .ref s4.heap.objs.size]) ht.typeIs (PyProof.Rows.slot_tuple_getitem.lookup) ?_ (by with_unfolding_all rfl)
  have hlen := r.length
  refine getItem_tuple_rev ht (Heap.IsSliceOf.new _ _ _ _) ?_ (by omega)
  refine ⟨.ref _, _, I5.laid (t' := s4.toks) (o := .tup xs.reverse) (fun b ob q => Heap.get?_push_of_some _ q) (Nat.le_refl _) ?_, rfl, q _ (I5.hok.fresh (Nat.le_refl _))⟩
  exact ⟨by rw [List.length_reverse]; exact hz, _, r.reverse, IsTup.new _ _⟩
def dRevT (fa : DE) : DE := fun ρ Q => fa ρ fun z ρ1 => ∃ ds, z = .tuple ds ∧ Q (.tuple ds.reverse) ρ1
theorem je_revT {k : Nat} {p1 p2 p3 : Pos} (ha : JE X a fa) : JE X (.Subscript a (.Slice none none (some (.UnaryOp .USub (.Constant (.int 1) k p1) p2)) p3) pos) (dRevT fa) := by
  obtain ⟨ta, pa, ka⟩ := ha.ex
  refine ⟨_, pe_revT pa, fun T ρ σ H QD Q r h q => ka T ρ σ H _ _ r h fun z ρ1 v H1 r1 p1 v1 h => ?_⟩
  obtain ⟨ds, rfl, h⟩ := h
  cases v1 with
  | tup hp rr => exact ⟨_, _, rfl, sqt_of hp, fun l hl => q _ _ _ _ (r1.grow (Ex.new hl)) (p1.trans (.grow (Ex.new hl))) (rp_newT (fun a => r1.hdDom) hl rr.reverse) h⟩

/-! ### t * n -/
def dRepT : D → D → (D → Prop) → Prop := fun x y Q => ∃ (ds : List D) (n : Int), x = .tuple ds ∧ y = .int n ∧ ds ≠ [] ∧ 2 ≤ n ∧ n ≤ 1000 ∧ ds.length ≤ 1000 ∧ Q (.tuple (List.replicate n.toNat ds).flatten)
theorem RpAll.rep {K : PySem.W.Frag} {G : Hp} {vs : List V} {ds : List D} (r : RpAll K G vs ds) : ∀ n : Nat, RpAll K G (List.replicate n vs).flatten (List.replicate n ds).flatten
  | 0 => .nil
  | n + 1 => by simpa [List.replicate_succ] using r.append (RpAll.rep r n)
theorem opd_repT : OpD X (binaryOp .Mult) dRepT := by
  refine ⟨_, op_repT, fun O H x y d e QD Q hO rx ry h k => ?_⟩
  obtain ⟨ds, n, rfl, rfl, h0, h1, h2, h3, h⟩ := h
  cases ry
  cases rx with
  | tup hp rr =>
    refine ⟨_, _, _, rfl, rfl, sqt_of hp, ?_, h1, h2, by rw [rr.length]; exact h3, fun l hl => k _ _ _ (Ex.new hl) (rp_newT hO hl (rr.rep _)) h⟩
    intro z; subst z; cases rr; exact h0 rfl

/-! ### lcm -/
def rLcm : List V → Hp → VK → Prop := fun vs H Q => ∃ a b : Int, vs = [.int a, .int b] ∧ a.natAbs < 2 ^ 64 ∧ b.natAbs < 2 ^ 64 ∧ Q (.int ((Nat.lcm a.natAbs b.natAbs : Nat) : Int)) H
theorem cr_lcm : CallR X (.builtin "math.lcm") rLcm := by
  intro pins s σ H vs us Q I r h
  obtain ⟨a, b, rfl, h1, h2, q⟩ := h
  obtain ⟨t, u, rfl⟩ := Vals.int2 r
  exact PySem.W.mc_lcm h1 h2 fun _ => ⟨.int _, H, I.tok _, ⟨_, rfl⟩, q⟩
end
end Dn
set_option Elab.async false
set_option linter.all false
set_option maxRecDepth 100000
set_option autoImplicit false
set_option maxHeartbeats 4000000
/-! Loops by what is left, by a fold, by a measure; dicts with int keys; what a def's reading is to do. -/
namespace Dn
open PySem L2 Evl PySem.Spec PyProof.Rows
abbrev VD (g : DS) (S : List D → (D → Prop) → Prop) (np m : Nat) : Prop := ∀ (ds : List D) (Q : D → Prop), ds.length = np → S ds Q → g { nx := fun _ => Q .none, rt := fun d _ => Q d } (envD ds m)
abbrev VM (g : DS) (S : List D → List D → (D → List D → Prop) → Prop) (np m : Nat) : Prop := ∀ (l : Addr) (ms ds : List D) (Q : D → List D → Prop), ds.length + 1 = np → S ms ds Q →
  g { nx := fun ρ => ∃ ms', ρ[0]? = some (some (.ow (.par l (.lst ms')))) ∧ Q .none ms', rt := fun d ρ => ∃ ms', ρ[0]? = some (some (.ow (.par l (.lst ms')))) ∧ Q d ms' } (some (.ow (.par l (.lst ms))) :: envD ds m)
abbrev VL (g : (List D → Prop) → Env → Prop) (S : List D → (List D → Prop) → Prop) (np m : Nat) : Prop := ∀ (ds : List D) (Q : List D → Prop), ds.length = np → S ds Q → g Q (envD ds m)

theorem wpFor_rest {g : DG} {body : DS} {E : DEnds} (I : List D → Env → Prop) {ds : List D} {ρ0 : Env} (h0 : I ds ρ0)
    (hs : ∀ (d : D) (rest : List D) (ρ : Env) (K : Env → Prop), I (d :: rest) ρ → (∀ ρ', I rest ρ' → K ρ') → g d ρ fun ρ1 => body { nx := K, ct := K, bk := E.nx, rt := E.rt } ρ1)
    (he : ∀ ρ, I [] ρ → E.nx ρ) : wpFor g body E ds ρ0 := by
  have aux : ∀ (ds : List D) (ρ : Env), I ds ρ → wpFor g body E ds ρ := by
    intro ds
    induction ds with
    | nil => intro ρ p; exact he ρ p
    | cons d rest ih => intro ρ p; exact hs d rest ρ _ p fun ρ' p' => ih ρ' p'
  exact aux ds ρ0 h0
theorem wpFor_fold {α β : Type} {g : DG} {body : DS} {E : DEnds} (l : List α) (it : α → D) (f : β → α → β) (R : β → Env → Prop) {b0 : β} {ρ0 : Env} (h0 : R b0 ρ0)
    (hs : ∀ x, x ∈ l → ∀ (b : β) (ρ : Env) (K : Env → Prop), R b ρ → (∀ ρ', R (f b x) ρ' → K ρ') → g (it x) ρ fun ρ1 => body { nx := K, ct := K, bk := E.nx, rt := E.rt } ρ1)
    (he : ∀ ρ, R (l.foldl f b0) ρ → E.nx ρ) : wpFor g body E (l.map it) ρ0 := by
  induction l generalizing b0 ρ0 with
  | nil => exact he _ h0
  | cons x l ih => exact hs x (by simp) b0 ρ0 _ h0 fun ρ' p => ih p (fun y hy => hs y (by simp [hy])) (fun ρ h => he ρ h)
theorem wpWh_lt {β : Type} {c : DT} {body : DS} {E : DEnds} (R : β → Env → Prop) (μ : β → Nat)
    (hs : ∀ (b : β) (ρ : Env) (K : Env → Prop), R b ρ → (∀ b' ρ', μ b' < μ b → R b' ρ' → K ρ') → c ρ fun t ρ1 => if t = true then body { nx := K, ct := K, bk := E.nx, rt := E.rt } ρ1 else E.nx ρ1)
    {b : β} {ρ : Env} (h : R b ρ) : ∃ n, wpWh c body E n ρ := by
  have aux : ∀ (n : Nat) (b : β) (ρ : Env), μ b < n → R b ρ → wpWh c body E n ρ := by
    intro n
    induction n with
    | zero => intro b ρ h; omega
    | succ n ih => intro b ρ h r; exact hs b ρ _ r fun b' ρ' lt r' => ih b' ρ' (by omega) r'
  exact ⟨μ b + 1, aux _ b ρ (by omega) h⟩
theorem wpFor_ap {α : Type} {g : DG} {body : DS} {E : DEnds} (l : List α) (it h : α → D) (R : List D → Env → Prop) {ρ0 : Env} (h0 : R [] ρ0)
    (hs : ∀ x, x ∈ l → ∀ (acc : List D) (ρ : Env) (K : Env → Prop), R acc ρ → acc.length < l.length → (∀ ρ', R (acc ++ [h x]) ρ' → K ρ') → g (it x) ρ fun ρ1 => body { nx := K, ct := K, bk := E.nx, rt := E.rt } ρ1)
    (he : ∀ ρ, R (l.map h) ρ → E.nx ρ) : wpFor g body E (l.map it) ρ0 := by
  refine wpFor_cps (fun done ρ => R ((l.take done.length).map h) ρ) (by simpa using h0) (fun done d rest ρ K e p k => ?_) (fun ρ p => he ρ (by simpa using p))
  obtain ⟨l1, x, l2, rfl, rfl, rfl, rfl⟩ := map_split e
  refine hs x (by simp) _ ρ K p (by simp) fun ρ' q => k ρ' ?_
  simp only [List.length_append, List.length_map, List.length_cons, List.length_nil] at q ⊢
  rw [show l1.length + (0 + 1) = (l1 ++ [x]).length by simp, show l1 ++ x :: l2 = (l1 ++ [x]) ++ l2 by simp, List.take_left']
  · simp at q ⊢; exact q
  · rfl
theorem wpLc_all {g : DG} {tt : DT} {te : DE} {vs : List Nat} {Q : List D → Env → Prop} {ds : List D} {ρ0 : Env} (Good : D → Prop) (I : Env → Prop) (h0 : I ρ0) (hl : ds.length < 16777216)
    (hs : ∀ d, d ∈ ds → ∀ (ρ : Env) (K : D → Env → Prop), I ρ → (∀ y ρ3, Good y → I (wipeD ρ3 vs) → K y ρ3) → g d (wipeD ρ vs) fun ρ1 => te ρ1 fun y ρ3 => K y ρ3)
    (hf : ∀ ρ1, tt ρ1 = fun K => K true ρ1) (he : ∀ acc ρ, acc.length = ds.length → (∀ y, y ∈ acc → Good y) → I ρ → Q acc ρ) : wpLc g tt te vs Q ds [] ρ0 := by
  refine wpLc_cps (fun done acc ρ => acc.length = done.length ∧ (∀ y, y ∈ acc → Good y) ∧ I ρ) ⟨rfl, by simp, h0⟩ (fun done d rest acc ρ K e p k => ?_) (fun acc ρ p => he acc ρ p.1 p.2.1 p.2.2)
  have el := congrArg List.length e
  simp at el
  refine ⟨by omega, ?_⟩
  simp only [hf, if_true]
  refine hs d (by rw [e]; simp) ρ _ p.2.2 fun y ρ3 gy i => k _ _ ⟨by simp [p.1], fun z hz => ?_, i⟩
  rcases List.mem_append.mp hz with hz | hz
  · exact p.2.1 z hz
  · rw [List.mem_singleton.mp hz]; exact gy
theorem wpFor_inv {g : DG} {body : DS} {E : DEnds} {ds : List D} {ρ0 : Env} (I : Env → Prop) (h0 : I ρ0)
    (hs : ∀ d, d ∈ ds → ∀ (ρ : Env) (K : Env → Prop), I ρ → (∀ ρ', I ρ' → K ρ') → g d ρ fun ρ1 => body { nx := K, ct := K, bk := E.nx, rt := E.rt } ρ1)
    (he : ∀ ρ, I ρ → E.nx ρ) : wpFor g body E ds ρ0 :=
  wpFor_cps (fun _ ρ => I ρ) h0 (fun done d rest ρ K e p k => hs d (by rw [e]; simp) ρ K p k) he
theorem all_map {α : Type} {f : α → D} {R : α → Prop} : ∀ {acc : List D}, (∀ y, y ∈ acc → ∃ r, y = f r ∧ R r) → ∃ C : List α, acc = C.map f ∧ ∀ r, r ∈ C → R r
  | [], _ => ⟨[], rfl, by simp⟩
  | y :: acc, h => by
    obtain ⟨r, rfl, hr⟩ := h y (by simp)
    obtain ⟨C, rfl, hC⟩ := all_map (acc := acc) fun y hy => h y (by simp [hy])
    exact ⟨r :: C, rfl, fun z hz => by rcases List.mem_cons.mp hz with rfl | hz; exact hr; exact hC z hz⟩
theorem mem_rgD {i j : Int} {d : D} (h : d ∈ rgD i j) : ∃ k : Int, d = .int k ∧ i ≤ k ∧ k < j := by
  unfold rgD at h
  obtain ⟨k, hk, rfl⟩ := List.mem_map.mp h
  have := List.mem_range.mp hk
  exact ⟨_, rfl, by omega, by omega⟩
theorem rgD_len {i j : Int} : (rgD i j).length = (j - i).toNat := by unfold rgD; simp
theorem cm_l {i j : Int} (h : -(2 ^ 64) < i ∧ i < 2 ^ 64) : CMul i j ∨ CMulW i j := .inl (.inl h)
theorem cm_r {i j : Int} (h : -(2 ^ 64) < j ∧ j < 2 ^ 64) : CMul i j ∨ CMulW i j := .inl (.inr h)
theorem cd_t {i t : Int} (h0 : 0 < t) (h1 : t ≤ 1000000000000000000000000000000000000000000000000000000000000) : CDivW i t := wide_div (b := 200) h0 (Nat.lt_of_le_of_lt (show t.natAbs ≤ 1000000000000000000000000000000000000000000000000000000000000 by omega) (by decide +kernel)) (by decide) (by decide)
theorem cm_n {i j : Int} (h0 : 0 ≤ i) (h : i ≤ 1000) : CMul i j ∨ CMulW i j := cm_l ⟨by omega, by omega⟩
theorem rgd {n : Nat} (h : n ≤ 1000) : RgD 0 (n : Int) := ⟨by omega, by omega, by omega, by omega⟩
theorem dLen_seq {d : D} {xs : List D} {Q : D → Prop} (h : seqD d = some xs) : dLen [d] Q = Q (.int xs.length) := by unfold dLen; dsimp only; rw [h]
theorem erase_permD {L : List D} {r : Nat} (h : r < L.length) : (L[r] :: L.eraseIdx r).Perm L := by
  rw [List.eraseIdx_eq_take_drop_succ]
  refine List.perm_middle.symm.trans ?_
  rw [← List.drop_eq_getElem_cons h, List.take_append_drop]
/-! ### tables by keys -/
theorem valD_none_any {kvs : List (Key × D)} {k : Key} : valD kvs k = none ↔ (kvs.any fun kv => decide (kv.1 = k)) = false := by
  unfold valD
  rw [Option.map_eq_none_iff, List.find?_eq_none]
  simp
theorem putD_new {kvs : List (Key × D)} {k : Key} (d : D) (h : valD kvs k = none) : putD kvs k d = kvs ++ [(k, d)] := by
  unfold putD
  rw [valD_none_any.1 h]
  simp
theorem putD_len {kvs : List (Key × D)} {k : Key} {d : D} : (putD kvs k d).length ≤ kvs.length + 1 := by
  unfold putD
  split <;> simp
theorem valD_some {kvs : List (Key × D)} {k : Key} : (valD kvs k).isSome = (kvs.any fun kv => decide (kv.1 = k)) := by
  cases h : valD kvs k with
  | none => rw [valD_none_any.1 h]; rfl
  | some d =>
    cases h2 : (kvs.any fun kv => decide (kv.1 = k)) with
    | false => rw [valD_none_any.2 h2] at h; cases h
    | true => rfl
/-- the keys of a table behind a put -/
theorem putD_has {kvs : List (Key × D)} {k j : Key} {d : D} : (valD (putD kvs k d) j).isSome = true ↔ j = k ∨ (valD kvs j).isSome = true := by
  rw [valD_some, valD_some]
  unfold putD
  by_cases h : (kvs.any fun kv => decide (kv.1 = k)) = true
  · rw [if_pos h]
    simp only [List.any_map, Function.comp_def, List.any_eq_true, decide_eq_true_eq] at h ⊢
    obtain ⟨e, he, hk⟩ := h
    constructor
    · rintro ⟨x, hx, hj⟩
      by_cases z : x.1 = k
      · rw [if_pos z] at hj; exact .inl (by rw [← hj, ← z])
      · rw [if_neg z] at hj; exact .inr ⟨x, hx, hj⟩
    · rintro (rfl | ⟨x, hx, hj⟩)
      · exact ⟨e, he, by rw [if_pos hk]; exact hk⟩
      · refine ⟨x, hx, ?_⟩
        split <;> exact hj
  · rw [if_neg h]
    simp only [List.any_append, List.any_cons, List.any_nil, Bool.or_false, Bool.or_eq_true, decide_eq_true_eq]
    constructor
    · rintro (h | h)
      · exact .inr h
      · exact .inl h.symm
    · rintro (h | h)
      · exact .inr h.symm
      · exact .inl h
end Dn
set_option Elab.async false
set_option linter.all false
set_option maxRecDepth 100000
set_option autoImplicit false
set_option maxHeartbeats 4000000
/-! Ways between things: what a search along makers finds. -/
namespace Dn
open PySem L2 Evl PySem.Spec PyProof.Rows
def im (m : List Int) (x : Int) : Int := m.getD x.toNat 0
abbrev Wy := List (Int × List Int)
def lk (w : Wy) (x : Int) : Option (List Int) := (w.find? fun e => decide (e.1 = x)).map (·.2)
def wk (f : List Int → D) (w : Wy) : List (Key × D) := w.map fun e => (Sum.inl e.1, f e.2)
theorem valD_wk (f : List Int → D) (w : Wy) (x : Int) : valD (wk f w) (.inl x) = (lk w x).map f := by
  unfold valD lk wk
  induction w with
  | nil => rfl
  | cons e w ih =>
    rw [List.map_cons, List.find?_cons, List.find?_cons]
    by_cases h : e.1 = x
    · simp [h]
    · simp only [h, decide_false, Sum.inl.injEq]
      exact ih
theorem putD_wk (f : List Int → D) (w : Wy) (x : Int) (p : List Int) (h : lk w x = none) : putD (wk f w) (.inl x) (f p) = wk f (w ++ [(x, p)]) := by
  rw [putD_new _ (by rw [valD_wk, h]; rfl)]
  unfold wk
  simp
theorem lk_mem {w : Wy} {x : Int} {p : List Int} (h : lk w x = some p) : (x, p) ∈ w := by
  unfold lk at h
  obtain ⟨e, h1, h2⟩ := Option.map_eq_some_iff.mp h
  have := List.find?_some h1
  have hm := List.mem_of_find?_eq_some h1
  simp at this
  obtain ⟨a, b⟩ := e
  simp at this h2
  subst this h2
  exact hm
theorem lk_none {w : Wy} {x : Int} : lk w x = none ↔ ∀ e, e ∈ w → e.1 ≠ x := by
  unfold lk
  rw [Option.map_eq_none_iff, List.find?_eq_none]
  simp
theorem lk_some {w : Wy} {x : Int} : (lk w x).isSome = true ↔ ∃ e, e ∈ w ∧ e.1 = x := by
  cases h : lk w x with
  | none =>
    have := lk_none.1 h
    simp
    intro a b
    exact this (x, a) b rfl
  | some p => simp; exact ⟨p, lk_mem h⟩
theorem lk_at {w : Wy} (nd : (w.map (·.1)).Nodup) {j : Nat} {e : Int × List Int} (h : w[j]? = some e) : lk w e.1 = some e.2 := by
  induction w generalizing j with
  | nil => simp at h
  | cons a w ih =>
    rw [List.map_cons, List.nodup_cons] at nd
    unfold lk
    rw [List.find?_cons]
    cases j with
    | zero => simp at h; subst h; simp
    | succ j =>
      simp at h
      have hm : e ∈ w := List.mem_of_getElem? h
      have ne : ¬ a.1 = e.1 := fun z => nd.1 (by rw [z]; exact List.mem_map.mpr ⟨e, hm, rfl⟩)
      simp only [ne, decide_false]
      exact ih nd.2 h
def st1 (mk : List (List Int)) (x : Int) (p : List Int) (w : Wy) (i : Int) : Wy :=
  if (lk w (im (mk.getD i.toNat []) x)).isSome = true then w else w ++ [(im (mk.getD i.toNat []) x, p ++ [i])]
def proc (mk : List (List Int)) (x : Int) (p : List Int) (w : Wy) : Wy := (rgI mk.length).foldl (st1 mk x p) w
def run (mk : List (List Int)) : Nat → Wy → Nat → Wy
  | 0, w, _ => w
  | k + 1, w, r => match w[r]? with
    | some e => run mk k (proc mk e.1 e.2 w) (r + 1)
    | none => w
def waysOf (mk : List (List Int)) (n : Nat) (s : Int) : Wy := run mk n [(s, [])] 0
def walk (mk : List (List Int)) (s : Int) (p : List Int) : Int := p.foldl (fun h i => im (mk.getD i.toNat []) h) s
theorem walk_snoc (mk : List (List Int)) (s : Int) (p : List Int) (i : Int) : walk mk s (p ++ [i]) = im (mk.getD i.toNat []) (walk mk s p) := by unfold walk; simp
/-- makers: moves of n things -/
structure Mk (n : Nat) (mk : List (List Int)) : Prop where
  few : mk.length ≤ 24
  most : n ≤ 24
  move : ∀ m, m ∈ mk → List.Perm m (rgI n)
theorem Mk.len {n : Nat} {mk : List (List Int)} (h : Mk n mk) {m : List Int} (hm : m ∈ mk) : m.length = n := by rw [(h.move m hm).length_eq, rgI_len]
theorem im_in {n : Nat} {m : List Int} (h : List.Perm m (rgI n)) {x : Int} (x0 : 0 ≤ x) (x1 : x < n) : 0 ≤ im m x ∧ im m x < n := by
  have hl : m.length = n := by rw [h.length_eq, rgI_len]
  have : im m x ∈ m := getD_mem (by omega)
  exact mem_rgI.mp (h.mem_iff.1 this)
theorem Mk.at {n : Nat} {mk : List (List Int)} (h : Mk n mk) {i : Int} (hi : i ∈ rgI mk.length) : mk.getD i.toNat [] ∈ mk := getD_mem (by have := mem_rgI.mp hi; omega)
structure Wg (n : Nat) (mk : List (List Int)) (s : Int) (w : Wy) : Prop where
  nd : (w.map (·.1)).Nodup
  rng : ∀ e, e ∈ w → 0 ≤ e.1 ∧ e.1 < n
  path : ∀ (j : Nat) (e : Int × List Int), w[j]? = some e → e.2.length ≤ j ∧ (∀ i, i ∈ e.2 → i ∈ rgI mk.length) ∧ walk mk s e.2 = e.1
  head : w[0]? = some (s, [])
theorem nodup_le : ∀ {l ns : List Int}, l.Nodup → (∀ k, k ∈ l → k ∈ ns) → l.length ≤ ns.length
  | [], _, _, _ => by simp
  | x :: l, ns, hd, h => by
    have hd2 := List.nodup_cons.mp hd
    have hx : x ∈ ns := h x (by simp)
    have p := erase_perm hx
    have : l.length ≤ (ns.erase x).length := nodup_le hd2.2 fun k hk => by
      have ne : k ≠ x := fun z => hd2.1 (by rw [← z]; exact hk)
      rcases List.mem_cons.mp (p.mem_iff.2 (h k (by simp [hk]))) with z | z
      · exact absurd z ne
      · exact z
    have e := p.length_eq
    simp only [List.length_cons] at e ⊢
    omega
theorem Wg.len {n : Nat} {mk : List (List Int)} {s : Int} {w : Wy} (h : Wg n mk s w) : w.length ≤ n := by
  have := nodup_le h.nd (ns := rgI n) fun k hk => by
    obtain ⟨e, he, rfl⟩ := List.mem_map.mp hk
    exact mem_rgI.mpr (h.rng e he)
  rw [rgI_len, List.length_map] at this
  exact this
theorem Wg.one {n : Nat} {mk : List (List Int)} {s : Int} (s0 : 0 ≤ s) (s1 : s < n) : Wg n mk s [(s, [])] :=
  ⟨by simp, by simp; omega, fun j e h => by
    cases j with
    | zero => simp at h; subst h; simp [walk]
    | succ j => simp at h, rfl⟩
theorem Wg.st1 {n : Nat} {mk : List (List Int)} {s : Int} {w : Wy} (h : Wg n mk s w) (hk : Mk n mk) {r : Nat} {e : Int × List Int} (hr : w[r]? = some e) {i : Int} (hi : i ∈ rgI mk.length) : Wg n mk s (st1 mk e.1 e.2 w i) := by
  unfold Dn.st1
  split
  · exact h
  · rename_i hn
    have ie := h.rng e (List.mem_of_getElem? hr)
    have ii := im_in (hk.move _ (hk.at hi)) ie.1 ie.2
    have hp := h.path r e hr
    have rl := (List.getElem?_eq_some_iff.mp hr).1
    have hn2 : ∀ a, a ∈ w → a.1 ≠ im (mk.getD i.toNat []) e.1 := fun a ha z => hn (lk_some.2 ⟨a, ha, z⟩)
    refine ⟨?_, fun a ha => ?_, fun j a ha => ?_, ?_⟩
    · rw [List.map_append, List.nodup_append]
      refine ⟨h.nd, by simp, fun a ha b hb => ?_⟩
      obtain ⟨a', ha', rfl⟩ := List.mem_map.mp ha
      simp at hb
      rw [hb]
      exact hn2 a' ha'
    · rcases List.mem_append.mp ha with ha | ha
      · exact h.rng a ha
      · rw [List.mem_singleton.mp ha]; exact ii
    · rw [List.getElem?_append] at ha
      split at ha
      · exact h.path j a ha
      · have : j - w.length = 0 := by
          have := (List.getElem?_eq_some_iff.mp ha).1
          simp at this; omega
        rw [this] at ha
        rw [List.getElem?_cons_zero, Option.some.injEq] at ha
        subst ha
        refine ⟨by simp; omega, fun k hk => ?_, by rw [walk_snoc, hp.2.2]⟩
        rcases List.mem_append.mp hk with hk | hk
        · exact hp.2.1 k hk
        · rw [List.mem_singleton.mp hk]; exact hi
    · rw [List.getElem?_append_left (by omega)]; exact h.head
theorem st1_pre (mk : List (List Int)) (x : Int) (p : List Int) (w : Wy) (i : Int) : w <+: st1 mk x p w i := by
  unfold st1
  split
  · exact List.prefix_refl w
  · exact List.prefix_append _ _
theorem pre_at {w w' : Wy} (h : w <+: w') {r : Nat} {e : Int × List Int} (hr : w[r]? = some e) : w'[r]? = some e := by
  obtain ⟨t, rfl⟩ := h
  rw [List.getElem?_append_left (List.getElem?_eq_some_iff.mp hr).1]; exact hr
theorem st1_has (mk : List (List Int)) (x : Int) (p : List Int) (w : Wy) (i : Int) : (lk (st1 mk x p w i) (im (mk.getD i.toNat []) x)).isSome = true := by
  unfold st1
  split
  · assumption
  · exact lk_some.2 ⟨_, List.mem_append_right _ (List.mem_singleton.mpr rfl), rfl⟩
theorem lk_pre {w w' : Wy} (h : w <+: w') {x : Int} (hx : (lk w x).isSome = true) : (lk w' x).isSome = true := by
  obtain ⟨e, he, z⟩ := lk_some.1 hx
  exact lk_some.2 ⟨e, h.subset he, z⟩
theorem fold_st1 {n : Nat} {mk : List (List Int)} {s : Int} (hk : Mk n mk) {r : Nat} {e : Int × List Int} : ∀ (l : List Int) (w : Wy), Wg n mk s w → w[r]? = some e → (∀ i, i ∈ l → i ∈ rgI mk.length) →
    Wg n mk s (l.foldl (st1 mk e.1 e.2) w) ∧ w <+: l.foldl (st1 mk e.1 e.2) w ∧ ∀ i, i ∈ l → (lk (l.foldl (st1 mk e.1 e.2) w) (im (mk.getD i.toNat []) e.1)).isSome = true
  | [], w, h, _, _ => ⟨h, List.prefix_refl w, by simp⟩
  | i :: l, w, h, hr, hl => by
    have h1 := h.st1 hk hr (hl i (by simp))
    have p1 := st1_pre mk e.1 e.2 w i
    obtain ⟨a, b, c⟩ := fold_st1 hk l (st1 mk e.1 e.2 w i) h1 (pre_at p1 hr) fun j hj => hl j (by simp [hj])
    refine ⟨a, p1.trans b, fun j hj => ?_⟩
    rcases List.mem_cons.mp hj with rfl | hj
    · exact lk_pre b (st1_has mk e.1 e.2 w j)
    · exact c j hj
theorem proc_ok {n : Nat} {mk : List (List Int)} {s : Int} (hk : Mk n mk) {w : Wy} (h : Wg n mk s w) {r : Nat} {e : Int × List Int} (hr : w[r]? = some e) :
    Wg n mk s (proc mk e.1 e.2 w) ∧ w <+: proc mk e.1 e.2 w ∧ ∀ i, i ∈ rgI mk.length → (lk (proc mk e.1 e.2 w) (im (mk.getD i.toNat []) e.1)).isSome = true :=
  fold_st1 hk (rgI mk.length) w h hr fun _ h => h
def Cl (mk : List (List Int)) (w : Wy) (x : Int) : Prop := ∀ i, i ∈ rgI mk.length → (lk w (im (mk.getD i.toNat []) x)).isSome = true
theorem run_ok {n : Nat} {mk : List (List Int)} {s : Int} (hk : Mk n mk) : ∀ (k : Nat) (w : Wy) (r : Nat), Wg n mk s w → n ≤ r + k → (∀ (j : Nat) (e : Int × List Int), j < r → w[j]? = some e → Cl mk w e.1) →
    Wg n mk s (run mk k w r) ∧ w <+: run mk k w r ∧ ∀ (j : Nat) (e : Int × List Int), (run mk k w r)[j]? = some e → Cl mk (run mk k w r) e.1
  | 0, w, r, h, hr, hc => ⟨h, List.prefix_refl w, fun j e he => hc j e (by have := (List.getElem?_eq_some_iff.mp he).1; have := h.len; simp only [run] at *; omega) he⟩
  | k + 1, w, r, h, hr, hc => by
    unfold run
    split
    · rename_i e he
      obtain ⟨a, b, c⟩ := proc_ok hk h he
      obtain ⟨a2, b2, c2⟩ := run_ok hk k (proc mk e.1 e.2 w) (r + 1) a (by omega) fun j e' hj he' => by
        by_cases z : j = r
        · subst z
          rw [pre_at b he] at he'; cases he'
          exact c
        · have hj2 : j < w.length := by have := (List.getElem?_eq_some_iff.mp he).1; omega
          have e2 : w[j]? = some w[j] := List.getElem?_eq_getElem hj2
          rw [pre_at b e2] at he'; cases he'
          exact fun i hi => lk_pre b (hc j _ (by omega) e2 i hi)
      exact ⟨a2, b.trans b2, c2⟩
    · rename_i he
      exact ⟨h, List.prefix_refl w, fun j e hj => hc j e (by have := (List.getElem?_eq_some_iff.mp hj).1; have := List.getElem?_eq_none_iff.mp he; omega) hj⟩
def ky (mk : List (List Int)) (n : Nat) (s : Int) (x : Int) : Prop := (lk (waysOf mk n s) x).isSome = true
section
variable {n : Nat} {mk : List (List Int)} {s : Int}
theorem ways_ok (hk : Mk n mk) (s0 : 0 ≤ s) (s1 : s < n) : Wg n mk s (waysOf mk n s) ∧ ∀ (j : Nat) (e : Int × List Int), (waysOf mk n s)[j]? = some e → Cl mk (waysOf mk n s) e.1 := by
  obtain ⟨a, _, c⟩ := run_ok hk n [(s, [])] 0 (Wg.one s0 s1) (by omega) fun j e hj => by omega
  exact ⟨a, c⟩
theorem ky_self (hk : Mk n mk) (s0 : 0 ≤ s) (s1 : s < n) : ky mk n s s := lk_some.2 ⟨_, List.mem_of_getElem? (ways_ok hk s0 s1).1.head, rfl⟩
theorem ky_step (hk : Mk n mk) (s0 : 0 ≤ s) (s1 : s < n) {x : Int} (h : ky mk n s x) {m : List Int} (hm : m ∈ mk) : ky mk n s (im m x) := by
  obtain ⟨e, he, rfl⟩ := lk_some.1 h
  obtain ⟨j, hj, ej⟩ := List.mem_iff_getElem.mp he
  obtain ⟨i, hi, ei⟩ := List.mem_iff_getElem.mp hm
  have := (ways_ok hk s0 s1).2 j e (by rw [List.getElem?_eq_getElem hj, ej]) (i : Int) (mem_rgI.mpr ⟨by omega, by omega⟩)
  simp only [Int.toNat_natCast, List.getD, List.getElem?_eq_getElem hi, ei, Option.getD_some] at this
  exact this
theorem ky_rng (hk : Mk n mk) (s0 : 0 ≤ s) (s1 : s < n) {x : Int} (h : ky mk n s x) : 0 ≤ x ∧ x < n := by
  obtain ⟨e, he, rfl⟩ := lk_some.1 h
  exact (ways_ok hk s0 s1).1.rng e he
theorem walk_in (hk : Mk n mk) (S : Int → Prop) (hc : ∀ x m, S x → m ∈ mk → S (im m x)) : ∀ (p : List Int) (a : Int), S a → (∀ i, i ∈ p → i ∈ rgI mk.length) → S (walk mk a p)
  | [], a, h, _ => h
  | i :: p, a, h, hp => walk_in hk S hc p _ (hc a _ h (hk.at (hp i (by simp)))) fun j hj => hp j (by simp [hj])
theorem ky_least (hk : Mk n mk) (s0 : 0 ≤ s) (s1 : s < n) (S : Int → Prop) (hs : S s) (hc : ∀ x m, S x → m ∈ mk → S (im m x)) {x : Int} (h : ky mk n s x) : S x := by
  obtain ⟨e, he, rfl⟩ := lk_some.1 h
  obtain ⟨j, hj, ej⟩ := List.mem_iff_getElem.mp he
  have := (ways_ok hk s0 s1).1.path j e (by rw [List.getElem?_eq_getElem hj, ej])
  rw [← this.2.2]
  exact walk_in hk S hc _ _ hs this.2.1
theorem ky_trans (hk : Mk n mk) (s0 : 0 ≤ s) (s1 : s < n) {x y : Int} (h : ky mk n s x) (h2 : ky mk n x y) : ky mk n s y := by
  have r := ky_rng hk s0 s1 h
  exact ky_least hk r.1 r.2 (ky mk n s) h (fun a m ha hm => ky_step hk s0 s1 ha hm) h2
theorem im_inj {m : List Int} (h : List.Perm m (rgI n)) {x y : Int} (x0 : 0 ≤ x) (x1 : x < n) (y0 : 0 ≤ y) (y1 : y < n) (e : im m x = im m y) : x = y := by
  have hl : m.length = n := by rw [h.length_eq, rgI_len]
  have nd : m.Nodup := h.nodup_iff.2 (by
    unfold rgI
    refine List.Pairwise.map _ (fun a b ne => ?_) List.nodup_range
    omega)
  unfold im at e
  rw [List.getD, List.getD, List.getElem?_eq_getElem (by omega), List.getElem?_eq_getElem (by omega)] at e
  simp at e
  have := (List.getElem_inj nd).mp e
  omega
theorem nodup_onto {l l' : List Int} (nd : l'.Nodup) (hs : ∀ k, k ∈ l' → k ∈ l) (hl : l.length ≤ l'.length) {x : Int} (hx : x ∈ l) : x ∈ l' := by
  by_cases h : x ∈ l'
  · exact h
  · have p := erase_perm hx
    have : l'.length ≤ (l.erase x).length := nodup_le nd fun k hk => by
      have ne : k ≠ x := fun z => h (by rw [← z]; exact hk)
      rcases List.mem_cons.mp (p.mem_iff.2 (hs k hk)) with z | z
      · exact absurd z ne
      · exact z
    have e := p.length_eq
    simp only [List.length_cons] at e
    omega
/-- what is led into the lot comes of the lot -/
theorem ky_back (hk : Mk n mk) (s0 : 0 ≤ s) (s1 : s < n) {x : Int} {m : List Int} (hm : m ∈ mk) (x0 : 0 ≤ x) (x1 : x < n) (h : ky mk n s (im m x)) : ky mk n s x := by
  have W := (ways_ok hk s0 s1).1
  have onto := nodup_onto (l := (waysOf mk n s).map (·.1)) (l' := (waysOf mk n s).map fun e => im m e.1) (by
      have := W.nd
      rw [List.Nodup, List.pairwise_map] at this ⊢
      refine this.imp_of_mem fun {a b} ha hb ne z => ne ?_
      have ra := W.rng a ha
      have rb := W.rng b hb
      exact im_inj (hk.move m hm) ra.1 ra.2 rb.1 rb.2 z) (fun k hk2 => by
      obtain ⟨e, he, rfl⟩ := List.mem_map.mp hk2
      obtain ⟨e2, he2, z⟩ := lk_some.1 (ky_step hk s0 s1 (lk_some.2 ⟨e, he, rfl⟩) hm)
      exact List.mem_map.mpr ⟨e2, he2, z⟩) (by simp) (x := im m x) (by
      obtain ⟨e, he, z⟩ := lk_some.1 h
      exact List.mem_map.mpr ⟨e, he, z⟩)
  obtain ⟨e, he, z⟩ := List.mem_map.mp onto
  have re := W.rng e he
  have := im_inj (hk.move m hm) re.1 re.2 x0 x1 z
  exact lk_some.2 ⟨e, he, this⟩
theorem ky_symm (hk : Mk n mk) (s0 : 0 ≤ s) (s1 : s < n) {x : Int} (h : ky mk n s x) : ky mk n x s := by
  have r := ky_rng hk s0 s1 h
  by_cases z : ky mk n x s
  · exact z
  · have : ¬ ky mk n x x := (ky_least hk s0 s1 (fun y => (0 ≤ y ∧ y < n) ∧ ¬ ky mk n x y) ⟨⟨s0, s1⟩, z⟩ (fun a m ha hm => ⟨im_in (hk.move m hm) ha.1.1 ha.1.2, fun w => ha.2 (ky_back hk r.1 r.2 hm ha.1.1 ha.1.2 w)⟩) h).2
    exact absurd (ky_self hk r.1 r.2) this
end
end Dn
set_option Elab.async false
set_option linter.all false
set_option maxRecDepth 100000
set_option autoImplicit false
set_option maxHeartbeats 4000000
/-! What the shared defs are to do. -/
namespace Dn
open PySem L2 Evl PySem.Spec PyProof.Rows
abbrev T60 : Int := 1000000000000000000000000000000000000000000000000000000000000
def isI : D → Bool
  | .int i => decide (-1000000000000000000000000000000000000000000000000000000000000 < i) && decide (i < 1000000000000000000000000000000000000000000000000000000000000)
  | _ => false
def isTh (n : Int) : D → Bool
  | .int i => (decide (-1000000000000000000000000000000000000000000000000000000000000 < i) && decide (i < 1000000000000000000000000000000000000000000000000000000000000)) && (decide (0 ≤ i) && decide (i < n))
  | _ => false
def isRow (m n : Int) : D → Bool
  | .tuple xs => decide ((xs.length : Int) = m) && xs.all (isTh n)
  | _ => false
def okW (d : D) : Prop := ∀ xs, d = .tuple xs → xs.length ≤ 100000
def intD : D → Int
  | .int i => i
  | _ => 0
def isMove : D → Bool
  | .tuple xs => decide (xs.length ≤ 24) && (xs.all (isTh xs.length) && decide ((xs.map intD).Nodup))
  | _ => false
def isMoveOf (n : Int) (d : D) : Bool := isMove d && (match d with
  | .tuple xs => decide ((xs.length : Int) = n)
  | _ => false)
theorem isTh_in {n x : Int} (h0 : 0 ≤ x) (h1 : x < n) (hn : n ≤ 24) : isTh n (.int x) = true := by
  simp only [isTh, Bool.and_eq_true, decide_eq_true_eq]
  omega
theorem isTh_int {n : Int} {d : D} (h : isTh n d = true) : ∃ i, d = .int i ∧ 0 ≤ i ∧ i < n := by
  cases d with
  | int i => simp only [isTh, Bool.and_eq_true, decide_eq_true_eq] at h; exact ⟨i, rfl, h.2.1, h.2.2⟩
  | _ => simp [isTh] at h
theorem all_ints {n : Int} : ∀ {xs : List D}, xs.all (isTh n) = true → xs = (xs.map intD).map PyData.int
  | [], _ => rfl
  | x :: xs, h => by
    rw [List.all_cons, Bool.and_eq_true] at h
    obtain ⟨i, rfl, _⟩ := isTh_int h.1
    rw [List.map_cons, List.map_cons, ← all_ints h.2]
    rfl
theorem intD_map (ns : List Int) : (ns.map PyData.int).map intD = ns := by
  induction ns with
  | nil => rfl
  | cons x ns ih => simp [intD] at ih ⊢; exact ih
theorem nodup_rgI (n : Nat) : (rgI n).Nodup := by
  unfold rgI
  refine List.Pairwise.map _ (fun a b ne => ?_) List.nodup_range
  omega
theorem move_perm {n : Nat} {m : List Int} (h : List.Perm m (rgI n)) (hn : n ≤ 24) : isMove (tI m) = true ∧ isMoveOf n (tI m) = true := by
  have hl : m.length = n := by rw [h.length_eq, rgI_len]
  have h1 : isMove (tI m) = true := by
    unfold isMove tI
    simp only [Bool.and_eq_true, decide_eq_true_eq, List.length_map, hl, List.all_map, List.all_eq_true, intD_map]
    refine ⟨hn, fun x hx => ?_, h.nodup_iff.2 (nodup_rgI n)⟩
    have := mem_rgI.mp (h.mem_iff.1 hx)
    exact isTh_in this.1 this.2 (by omega)
  refine ⟨h1, ?_⟩
  unfold isMoveOf
  rw [h1]
  simp [tI, hl]
def optT : Option (List Int) → D
  | none => .none
  | some p => tI p
/-- lots of things that lead to one another -/
structure Lots (n : Nat) (mk : List (List Int)) (lots : List (List Int)) : Prop where
  few : lots.length ≤ n
  each : ∀ l, l ∈ lots → l.length ≤ n ∧ ∃ a : Int, 0 ≤ a ∧ a < n ∧ ∀ x, x ∈ l ↔ ky mk n a x
  all : ∀ x : Int, 0 ≤ x → x < n → ∃ l, l ∈ lots ∧ x ∈ l
def isWay (mk : List (List Int)) (n : Nat) (s g : Int) (d : D) : Bool := match lk (waysOf mk n s) g with
  | none => false
  | some p => isRow p.length mk.length d && (match d with
    | .tuple xs => decide (walk mk s (xs.map intD) = g)
    | _ => false)
def S_is_integer (ds : List D) (Q : D → Prop) : Prop := ∃ d, ds = [d] ∧ Q (.bool (isI d))
def S_is_within (ds : List D) (Q : D → Prop) : Prop := ∃ i a b, ds = [.int i, .int a, .int b] ∧ Q (.bool (isI (.int i) && (decide (a ≤ i) && decide (i ≤ b))))
def S_is_thing (ds : List D) (Q : D → Prop) : Prop := ∃ d n, ds = [d, .int n] ∧ Q (.bool (isTh n d))
def S_is_row (ds : List D) (Q : D → Prop) : Prop := ∃ d m n, ds = [d, .int m, .int n] ∧ okW d ∧ n ≤ 100000 ∧ Q (.bool (isRow m n d))
def S_check_integer (ds : List D) (Q : D → Prop) : Prop := ∃ d, ds = [d] ∧ isI d = true ∧ Q .none
def S_check_within (ds : List D) (Q : D → Prop) : Prop := ∃ i a b, ds = [.int i, .int a, .int b] ∧ isI (.int i) = true ∧ a ≤ i ∧ i ≤ b ∧ Q .none
def S_check_thing (ds : List D) (Q : D → Prop) : Prop := ∃ d n, ds = [d, .int n] ∧ isTh n d = true ∧ Q .none
def S_is_move (ds : List D) (Q : D → Prop) : Prop := ∃ d, ds = [d] ∧ Q (.bool (isMove d))
def S_is_move_of (ds : List D) (Q : D → Prop) : Prop := ∃ d n, ds = [d, .int n] ∧ Q (.bool (isMoveOf n d))
def S_check_move (ds : List D) (Q : D → Prop) : Prop := ∃ d, ds = [d] ∧ isMove d = true ∧ Q .none
def S_check_move_of (ds : List D) (Q : D → Prop) : Prop := ∃ d n, ds = [d, .int n] ∧ isMoveOf n d = true ∧ Q .none
def S_check_makers (ds : List D) (Q : D → Prop) : Prop := ∃ (n : Nat) (mk : List (List Int)), ds = [.int n, tR mk] ∧ Mk n mk ∧ Q .none
def S__check_way (ds : List D) (Q : D → Prop) : Prop := ∃ (n : Nat) (mk : List (List Int)) (s g : Int), ds = [.int n, tR mk, .int s, .int g] ∧ Mk n mk ∧ (0 ≤ s ∧ s < n) ∧ (0 ≤ g ∧ g < n) ∧ Q .none
def S__ways_from (ds : List D) (Q : D → Prop) : Prop := ∃ (n : Nat) (mk : List (List Int)) (s : Int), ds = [tR mk, .int s] ∧ Mk n mk ∧ (0 ≤ s ∧ s < n) ∧ Q (.dict (dkD (wk tI (waysOf mk n s))))
def S_orbits (ds : List D) (Q : D → Prop) : Prop := ∃ (n : Nat) (mk : List (List Int)), ds = [.int n, tR mk] ∧ Mk n mk ∧ ∀ lots, Lots n mk lots → Q (tR lots)
def S_way (ds : List D) (Q : D → Prop) : Prop := ∃ (n : Nat) (mk : List (List Int)) (s g : Int), ds = [.int n, tR mk, .int s, .int g] ∧ Mk n mk ∧ (0 ≤ s ∧ s < n) ∧ (0 ≤ g ∧ g < n) ∧ Q (optT (lk (waysOf mk n s) g))
def S_is_way (ds : List D) (Q : D → Prop) : Prop := ∃ (n : Nat) (mk : List (List Int)) (s g : Int) (d : D), ds = [.int n, tR mk, .int s, .int g, d] ∧ Mk n mk ∧ (0 ≤ s ∧ s < n) ∧ (0 ≤ g ∧ g < n) ∧ okW d ∧ Q (.bool (isWay mk n s g d))
def Dc (ms : List D) : Prop := ∃ a b c : Int, ms = [.int a, .int b, .int c]
def scr (s : List Int) : D := .dict [(.none, .tuple (s.map PyData.int))]
def S__law_dice (ds : List D) (Q : List D → Prop) : Prop := ∃ s i, ds = [scr s, .int i] ∧ 0 ≤ i ∧ ∀ ms, Dc ms → Q ms
def S__law_roll (ms ds : List D) (Q : D → List D → Prop) : Prop := ∃ t, ds = [.int t] ∧ 0 < t ∧ t ≤ T60 ∧ Dc ms ∧ ∀ r ms', 0 ≤ r → r < t → Dc ms' → Q (.int r) ms'
def S__law_pick (ms ds : List D) (Q : D → List D → Prop) : Prop := ∃ d xs, ds = [d] ∧ seqD d = some xs ∧ xs ≠ [] ∧ xs.length ≤ 100000 ∧ Dc ms ∧ ∀ x ms', x ∈ xs → Dc ms' → Q x ms'
def S__law_mixed (ms ds : List D) (Q : D → List D → Prop) : Prop := ∃ d xs, ds = [d] ∧ seqD d = some xs ∧ xs.length ≤ 100000 ∧ Dc ms ∧ ∀ ys ms', ys.Perm xs → Dc ms' → Q (.list ys) ms'
def S__law_drawn_move (ms ds : List D) (Q : D → List D → Prop) : Prop := ∃ n : Nat, ds = [.int n] ∧ n ≤ 1000 ∧ Dc ms ∧ ∀ m ms', List.Perm m (rgI n) → Dc ms' → Q (tI m) ms'
theorem start_scr {K : PySem.W.Frag} {H : Hp} {a : Addr} {ns : List Int} (hS : SqL K H a (ns.map V.int)) : RpAll K (hide (fun _ => False) H) [.ref a] [scr ns] := by
  have e : Ex H (hide (fun _ => False) H) := fun a o h => hide_some.2 ⟨id, h⟩
  exact .cons (.frz (ex_l e hS) (RpAll.ints ns)) .nil
end Dn
set_option Elab.async false
set_option linter.all false
set_option maxRecDepth 100000
set_option autoImplicit false
set_option maxHeartbeats 4000000
namespace Dn
open PySem L2 Evl PySem.Spec PyProof.Rows
abbrev N_is_integer : List Str := ["value"]
abbrev P_is_integer : List Str := ["value"]
def g_is_integer : DS := sSeq (sIf (dTOr (dTNot (dTst (dIsi "int" (dVar 0)))) (dTst (dIsi "bool" (dVar 0)))) (sRet (dC (.bool false))) (sNx)) (sRet (dChain dLt dLt (dNeg (dC (.int 1000000000000000000000000000000000000000000000000000000000000))) (dVar 0) (dC (.int 1000000000000000000000000000000000000000000000000000000000000))))
abbrev N_is_within : List Str := ["value", "least", "most"]
abbrev P_is_within : List Str := ["value", "least", "most"]
def g_is_within : DS := sRet (dAnd (dCallF 1 S_is_integer (aCons (dVar 0) (aNil))) (dChain dLe dLe (dVar 1) (dVar 0) (dVar 2)))
abbrev N_is_thing : List Str := ["value", "size"]
abbrev P_is_thing : List Str := ["value", "size"]
def g_is_thing : DS := sRet (dAnd (dCallF 1 S_is_integer (aCons (dVar 0) (aNil))) (dChain dLe dLt (dC (.int 0)) (dVar 0) (dVar 1)))
abbrev N_is_row : List Str := ["value", "many", "size", "thing"]
abbrev P_is_row : List Str := ["value", "many", "size"]
def g_is_row : DS := sSeq (sIf (dTOr (dTNot (dTst (dIsi "tuple" (dVar 0)))) (dTst (dBin dNe (dCall dLen (aCons (dVar 0) (aNil))) (dVar 1)))) (sRet (dC (.bool false))) (sNx)) (sSeq (sFor (iSq (dVar 0)) (gNm 3) (sIf (dTOr (dTNot (dTst (dIsi "int" (dVar 3)))) (dTOr (dTst (dIsi "bool" (dVar 3))) (dTNot (dTst (dChain dLe dLt (dC (.int 0)) (dVar 3) (dVar 2)))))) (sRet (dC (.bool false))) (sNx))) (sRet (dC (.bool true))))
abbrev N_check_within : List Str := ["value", "least", "most"]
abbrev P_check_within : List Str := ["value", "least", "most"]
def g_check_within : DS := sIf (dTNot (dTst (dCallF 3 S_is_within (aCons (dVar 0) (aCons (dVar 1) (aCons (dVar 2) (aNil))))))) (sNever) (sNx)
abbrev N_check_thing : List Str := ["value", "size"]
abbrev P_check_thing : List Str := ["value", "size"]
def g_check_thing : DS := sIf (dTNot (dTst (dCallF 2 S_is_thing (aCons (dVar 0) (aCons (dVar 1) (aNil)))))) (sNever) (sNx)
abbrev N_is_move : List Str := ["value"]
abbrev P_is_move : List Str := ["value"]
def g_is_move : DS := sSeq (sIf (dTOr (dTNot (dTst (dIsi "tuple" (dVar 0)))) (dTst (dBin dGt (dCall dLen (aCons (dVar 0) (aNil))) (dC (.int 24))))) (sRet (dC (.bool false))) (sNx)) (sRet (dAnd (dCallF 3 S_is_row (aCons (dVar 0) (aCons (dCall dLen (aCons (dVar 0) (aNil))) (aCons (dCall dLen (aCons (dVar 0) (aNil))) (aNil))))) (dBin dEq (dLenSet (dVar 0)) (dCall dLen (aCons (dVar 0) (aNil))))))
abbrev N_is_move_of : List Str := ["value", "size"]
abbrev P_is_move_of : List Str := ["value", "size"]
def g_is_move_of : DS := sRet (dAnd (dCallF 1 S_is_move (aCons (dVar 0) (aNil))) (dBin dEq (dCall dLen (aCons (dVar 0) (aNil))) (dVar 1)))
abbrev N_check_move_of : List Str := ["value", "size"]
abbrev P_check_move_of : List Str := ["value", "size"]
def g_check_move_of : DS := sIf (dTNot (dTst (dCallF 2 S_is_move_of (aCons (dVar 0) (aCons (dVar 1) (aNil)))))) (sNever) (sNx)
abbrev N_check_makers : List Str := ["size", "makers", "maker"]
abbrev P_check_makers : List Str := ["size", "makers"]
def g_check_makers : DS := sSeq (sEx (dCallF 3 S_check_within (aCons (dVar 0) (aCons (dC (.int 0)) (aCons (dC (.int 24)) (aNil)))))) (sSeq (sIf (dTOr (dTNot (dTst (dIsi "tuple" (dVar 1)))) (dTst (dBin dGt (dCall dLen (aCons (dVar 1) (aNil))) (dC (.int 24))))) (sNever) (sNx)) (sFor (iSq (dVar 1)) (gNm 2) (sEx (dCallF 2 S_check_move_of (aCons (dVar 2) (aCons (dVar 0) (aNil)))))))
abbrev N__check_way : List Str := ["size", "makers", "start", "goal"]
abbrev P__check_way : List Str := ["size", "makers", "start", "goal"]
def g__check_way : DS := sSeq (sEx (dCallF 2 S_check_makers (aCons (dVar 0) (aCons (dVar 1) (aNil))))) (sSeq (sEx (dCallF 2 S_check_thing (aCons (dVar 2) (aCons (dVar 0) (aNil))))) (sEx (dCallF 2 S_check_thing (aCons (dVar 3) (aCons (dVar 0) (aNil))))))
abbrev N__ways_from : List Str := ["makers", "start", "ways", "found", "reached", "here", "index", "maker"]
abbrev P__ways_from : List Str := ["makers", "start"]
def g__ways_from : DS := sSeq (sSet 2 (xDct1 (dVar 1) (dTup (aNil)))) (sSeq (sSet 3 (xOw (lLst (aCons (dVar 1) (aNil))))) (sSeq (sSet 4 (xIm (dC (.int 0)))) (sSeq (sWh (dTst (dBin dLt (dVar 4) (dCallO 3 dLen))) (sSeq (sSet 5 (xIm (dIxP 3 (dVar 4)))) (sSeq (sFor (iEn (dVar 0)) (gTp 2 (gsCons (gNm 6) (gsCons (gNm 7) (gsNil)))) (sIf (dTst (dInK true 2 (dBin dIx (dVar 7) (dVar 5)))) (sSeq (sPutK 2 (dBin dIx (dVar 7) (dVar 5)) (dBin dAdd (dGetK 2 (dVar 5)) (dTup (aCons (dVar 6) (aNil))))) (sEx (dApp 3 (dBin dIx (dVar 7) (dVar 5))))) (sNx))) (sAugI 4 (dC (.int 1)))))) (sRetK 2))))
abbrev N__law_dice : List Str := ["_law_script", "_law_spot", "_law_cell", "_law_left"]
abbrev P__law_dice : List Str := ["_law_script", "_law_spot"]
def g__law_dice : (List D → Prop) → Env → Prop := (fun Q ρ => (sSet 2 (xIm (dIfE (dTst (dBin dLt (dVar 1) (dCall dLen (aCons (dVar 0) (aNil))))) (dCall dInt (aCons (dBin dIx (dVar 0) (dVar 1)) (aNil))) (dBin dAdd (dBin dMulA (dC (.int 83)) (dVar 1)) (dC (.int 29)))))) { nx := (fun Q ρ => (sSet 3 (xIm (dBin dMod (dCall dMax2 (aCons (dC (.int 0)) (aCons (dBin dSub (dCall dAbs (aCons (dVar 2) (aNil))) (dBin dPow (dC (.int 10)) (dC (.int 16)))) (aNil)))) (dBin dMulA (dBin dPow (dC (.int 10)) (dC (.int 60))) (dBin dPow (dC (.int 10)) (dC (.int 60))))))) { nx := (fun Q ρ => (lLst (aCons (dVar 3) (aCons (dBin dAdd (dBin dAdd (dBin dAdd (dBin dMulA (dBin dMod (dCall dAbs (aCons (dVar 2) (aNil))) (dC (.int 1152921504606845527))) (dC (.int 79))) (dBin dMulA (dC (.int 877)) (dVar 1))) (dBin dMulA (dC (.int 41)) (dCall dInt (aCons (dBin dLt (dVar 2) (dC (.int 0))) (aNil))))) (dC (.int 23))) (aCons (dC (.int 0)) (aNil))))) ρ fun es _ => Q es) Q, rt := fun _ _ => False } ρ) Q, rt := fun _ _ => False } ρ)
abbrev N__law_roll : List Str := ["_law_dice_here", "_law_total", "_law_found", "_law_one", "_law_two"]
abbrev P__law_roll : List Str := ["_law_dice_here", "_law_total"]
def g__law_roll : DS := sSeq (sIf (dTst (dBin dGt (dIxP 0 (dC (.int 0))) (dC (.int 0)))) (sSeq (sSet 2 (xIm (dBin dMod (dCall dInt (aCons (dIxP 0 (dC (.int 0))) (aNil))) (dVar 1)))) (sSeq (sSub 0 (dC (.int 0)) (dBin dFdiv (dIxP 0 (dC (.int 0))) (dVar 1))) (sRet (dVar 2)))) (sNx)) (sSeq (sSub 0 (dC (.int 2)) (dBin dAdd (dIxP 0 (dC (.int 2))) (dC (.int 1)))) (sSeq (sSet 3 (xIm (dBin dMod (dCall dInt (aCons (dBin dAdd (dIxP 0 (dC (.int 1))) (dBin dMulA (dC (.int 92821957)) (dIxP 0 (dC (.int 2))))) (aNil))) (dC (.int 2305843009213691579))))) (sSeq (sSet 4 (xIm (dBin dAdd (dBin dMulA (dBin dMod (dCall dInt (aCons (dBin dAdd (dBin dMulA (dVar 3) (dVar 3)) (dBin dMulA (dC (.int 97)) (dIxP 0 (dC (.int 2))))) (aNil))) (dC (.int 2305843009213692227))) (dC (.int 5915587))) (dVar 3)))) (sRet (dBin dMod (dCall dInt (aCons (dBin dFdiv (dVar 4) (dC (.int 65536))) (aNil))) (dVar 1))))))
abbrev N__law_mixed : List Str := ["_law_dice_here", "_law_items", "_law_left", "_law_found", "_law_turn"]
abbrev P__law_mixed : List Str := ["_law_dice_here", "_law_items"]
def g__law_mixed : DS := sSeq (sPar 2 3 (xOw (lOf (dVar 1))) (xOw (lLst (aNil)))) (sSeq (sFor (iR1 (dCall dLen (aCons (dVar 1) (aNil)))) (gNm 4) (sEx (dApp 3 (dPopAt 2 (dCallM 0 2 S__law_roll (aCons (dCallO 2 dLen) (aNil))))))) (sRetO 3))
abbrev N__law_drawn_move : List Str := ["_law_dice_here", "_law_size"]
abbrev P__law_drawn_move : List Str := ["_law_dice_here", "_law_size"]
def g__law_drawn_move : DS := sRet (dCall dTupOf (aCons (dCallM 0 2 S__law_mixed (aCons (dOfL (lRg (rg1 (dVar 1)))) (aNil))) (aNil)))
abbrev N_orbits : List Str := ["size", "makers", "seen", "found", "start", "orbit", "thing"]
abbrev P_orbits : List Str := ["size", "makers"]
def g_orbits : DS := sSeq (sEx (dCallF 2 S_check_makers (aCons (dVar 0) (aCons (dVar 1) (aNil))))) (sSeq (sSet 2 (xDct)) (sSeq (sSet 3 (xOw (lLst (aNil)))) (sSeq (sFor (iR1 (dVar 0)) (gNm 4) (sIf (dTst (dInK true 2 (dVar 4))) (sSeq (sSet 5 (xIm (dOfL (lSort (dOfL (lKeys (dCallF 2 S__ways_from (aCons (dVar 1) (aCons (dVar 4) (aNil)))))))))) (sSeq (sFor (iSq (dVar 5)) (gNm 6) (sPutK 2 (dVar 6) (dC (.bool true)))) (sEx (dApp 3 (dCall dTupOf (aCons (dVar 5) (aNil))))))) (sNx))) (sRet (dTupO 3)))))
abbrev N_way : List Str := ["size", "makers", "start", "goal"]
abbrev P_way : List Str := ["size", "makers", "start", "goal"]
def g_way : DS := sSeq (sEx (dCallF 4 S__check_way (aCons (dVar 0) (aCons (dVar 1) (aCons (dVar 2) (aCons (dVar 3) (aNil))))))) (sRet (dGet1 (dCallF 2 S__ways_from (aCons (dVar 1) (aCons (dVar 2) (aNil)))) (dVar 3)))
abbrev N_is_way : List Str := ["size", "makers", "start", "goal", "value", "shortest", "here", "index"]
abbrev P_is_way : List Str := ["size", "makers", "start", "goal", "value"]
def g_is_way : DS := sSeq (sEx (dCallF 4 S__check_way (aCons (dVar 0) (aCons (dVar 1) (aCons (dVar 2) (aCons (dVar 3) (aNil))))))) (sSeq (sSet 5 (xIm (dGet1 (dCallF 2 S__ways_from (aCons (dVar 1) (aCons (dVar 2) (aNil)))) (dVar 3)))) (sSeq (sIf (dTOr (dTst (dBin dIs (dVar 5) (dC .none))) (dTNot (dTst (dCallF 3 S_is_row (aCons (dVar 4) (aCons (dCall dLen (aCons (dVar 5) (aNil))) (aCons (dCall dLen (aCons (dVar 1) (aNil))) (aNil)))))))) (sRet (dC (.bool false))) (sNx)) (sSeq (sSet 6 (xIm (dVar 2))) (sSeq (sFor (iSq (dVar 4)) (gNm 7) (sSet 6 (xIm (dBin dIx (dBin dIx (dVar 1) (dVar 7)) (dVar 6))))) (sRet (dBin dEq (dVar 6) (dVar 3)))))))
end Dn
set_option Elab.async false
set_option linter.all false
set_option maxRecDepth 100000
set_option autoImplicit false
set_option maxHeartbeats 4000000
namespace Dn
open PySem L2 Evl PySem.Spec PyProof.Rows
local macro_rules | `(tactic| walk_at "dd") => `(tactic| simp only [sSeq, sIf, sSet, sRet, sRetN, sNx, sEx, sAsg, sPar, dTOr, dTAnd, dTNot, dTst, dIsi, dVar, dC, dBin, dChain, dNeg, dI2, dAnd, dOr, dNot, dIfE, dCall, dCallF, aCons, aNil, dTup, lLst, dOfL, xIm, xOw, gNm, gTp, gsCons, gsNil, dYes, envD, dLen_tR, dLen_tI, dLen_tup, dLen_lst, seq_tR, seq_tI, seq_tup, seq_lst, dIs, dIsNot, dNe, dEq, dTupOf, dSl, oNone, oSome, iSq, iEn, iR1, iR2, sFor, lLc, sNever, dTRg, rg1, rg2, lRg, wipeD, isN,
  dIxP, sSub, dApp, dPopAt, dExt, dCallM, dCallO, dBinO, dTupO, lOf, lOfO, sRetO, iOw, dVarF, lCat, lCall, dAbs, dMax2, dMin2, dInt, atO, setO, MO.getL, MO.putL, Option.isSome_some,
  dInK, dGetK, dGetD, dInD, dGet1, lKeys, lSort, dLenSet, dRevT, sPutK, xDct, xDct1, sRetK, atK, keyD, sAugI,
  kit_int, kit_bool, kit_tuple, kit_str, List.map_cons, List.map_nil, List.cons_append, List.nil_append, List.replicate, List.set_cons_zero, List.set_cons_succ, List.getElem?_cons_zero, List.getElem?_cons_succ, List.length_cons, List.length_nil, List.length_map, Nat.reduceAdd, Nat.reduceSub, Bool.not_true, Bool.not_false, Bool.false_eq_true, if_true, if_false, true_and, reduceCtorEq, Bool.true_eq_false, rgD_rgI, Option.some.injEq, exists_eq_left', and_true])
theorem v_is_integer : VD g_is_integer S_is_integer 1 0 := fun ds Q _ h => by
  obtain ⟨d, rfl, h⟩ := h
  unfold g_is_integer
  walk_at "dd"
  cases d with
  | int i =>
    simp only [isI] at h
    walk_at "dd"
    refine bool_ways (fun e => ?_) (fun e => ?_)
    · rw [e] at h; exact h
    · rw [e] at h; exact h
  | _ => first | (walk_at "dd"; exact h) | exact h
theorem v_is_thing : VD g_is_thing S_is_thing 2 0 := fun ds Q _ h => by
  obtain ⟨d, n, rfl, h⟩ := h
  unfold g_is_thing
  walk_at "dd"
  refine ⟨d, rfl, ?_⟩
  cases d with
  | int i =>
    simp only [isTh] at h
    simp only [isI]
    refine bool_ways (fun e => ?_) (fun e => ?_)
    · rw [e] at h
      walk_at "dd"
      refine bool_ways (fun e2 => ?_) (fun e2 => ?_)
      · rw [e2] at h; simpa using h
      · rw [e2] at h; simpa using h
    · rw [e] at h; exact h
  | _ => exact h
theorem v_is_within : VD g_is_within S_is_within 3 0 := fun ds Q _ h => by
  obtain ⟨i, a, b, rfl, h⟩ := h
  unfold g_is_within
  walk_at "dd"
  refine ⟨_, rfl, ?_⟩
  refine bool_ways (fun e => ?_) (fun e => ?_)
  · rw [e] at h
    try walk_at "dd"
    refine bool_ways (fun e2 => ?_) (fun e2 => ?_)
    · rw [e2] at h; simpa using h
    · rw [e2] at h; simpa using h
  · rw [e] at h; exact h
theorem v_is_row : VD g_is_row S_is_row 3 1 := fun ds Q _ h => by
  obtain ⟨d, m, n, rfl, hl, hn, h⟩ := h
  unfold g_is_row
  walk_at "dd"
  cases d with
  | tuple xs =>
    simp only [isRow] at h
    walk_at "dd"
    refine ⟨rfl, rfl, ?_⟩
    simp only [PyData.eqv]
    refine ite_ways (fun e => ?_) (fun e => ?_)
    · rw [show decide ((xs.length : Int) = m) = false from by simpa using e] at h; exact h
    · rw [show decide ((xs.length : Int) = m) = true from by simpa using e] at h
      refine wpFor_find (fun d => if isTh n d = true then none else some (.bool false)) (fun ρ => ∃ x, ρ = [some (.im (.tuple xs)), some (.im (.int m)), some (.im (.int n)), x]) ⟨_, rfl⟩ (fun d _ ρ K B hI hq hk => ?_) (fun v hv => ?_) (fun hv ρ hI => ?_)
      · obtain ⟨x, rfl⟩ := hI
        walk_at "dd"
        cases d with
        | int i =>
          walk_at "dd"
          have te : isTh n (.int i) = true ↔ 0 ≤ i ∧ i < n := by
            simp only [isTh, Bool.and_eq_true, decide_eq_true_eq]
            omega
          refine bool_ways (fun e1 => ?_) (fun e1 => ?_)
          · refine ite_ways (fun e2 => ?_) (fun e2 => ?_)
            · exact hq _ (if_neg (by rw [te]; simp at e1 e2; omega))
            · exact hk (if_pos (by rw [te]; simp at e1 e2; omega)) _ ⟨_, rfl⟩
          · exact hq _ (if_neg (by rw [te]; simp at e1; omega))
        | _ => exact hq _ rfl
      · have e2 : xs.all (isTh n) = false := by
          obtain ⟨d, hd, h2⟩ := List.exists_of_findSome?_eq_some hv
          rw [Bool.eq_false_iff]
          intro z
          have := List.all_eq_true.mp z d hd
          simp [this] at h2
        have e3 : v = .bool false := by
          obtain ⟨d, hd, h2⟩ := List.exists_of_findSome?_eq_some hv
          split at h2
          · cases h2
          · cases h2; rfl
        subst e3
        simpa [e2] using h
      · have e2 : xs.all (isTh n) = true := by
          rw [List.all_eq_true]
          intro d hd
          have := List.findSome?_eq_none_iff.mp hv d hd
          simpa using this
        obtain ⟨x, rfl⟩ := hI
        walk_at "dd"
        simpa [e2] using h
  | _ => exact h
theorem v_check_within : VD g_check_within S_check_within 3 0 := fun ds Q _ h => by
  obtain ⟨i, a, b, rfl, h1, h2, h3, h⟩ := h
  unfold g_check_within
  walk_at "dd"
  refine ⟨_, _, _, rfl, ?_⟩
  rw [h1, decide_eq_true h2, decide_eq_true h3]
  exact h
theorem v_check_thing : VD g_check_thing S_check_thing 2 0 := fun ds Q _ h => by
  obtain ⟨d, n, rfl, h1, h⟩ := h
  unfold g_check_thing
  walk_at "dd"
  refine ⟨_, _, rfl, ?_⟩
  rw [h1]
  exact h
theorem v_is_move : VD g_is_move S_is_move 1 0 := fun ds Q _ h => by
  obtain ⟨d, rfl, h⟩ := h
  unfold g_is_move
  walk_at "dd"
  cases d with
  | tuple xs =>
    simp only [isMove] at h
    walk_at "dd"
    refine ite_ways (fun e => ?_) (fun e => ?_)
    · have : ¬ xs.length ≤ 24 := by simp at e; omega
      rw [decide_eq_false this] at h
      exact h
    · have hl : xs.length ≤ 24 := by simp at e; omega
      rw [decide_eq_true hl] at h
      refine ⟨_, _, _, rfl, fun ys hy => by cases hy; omega, by omega, ?_⟩
      simp only [isRow, decide_true, Bool.true_and] at h ⊢
      refine bool_ways (fun e2 => ?_) (fun e2 => ?_)
      · rw [e2] at h
        refine ⟨xs.map intD, by rw [← all_ints e2], by simp; omega, fun n hn => ?_⟩
        refine ⟨rfl, rfl, ?_⟩
        have : decide (xs.map intD).Nodup = PyData.eqv (.int n) (.int xs.length) := by
          simp only [PyData.eqv]
          by_cases z : (xs.map intD).Nodup
          · have := hn.2 z
            simp at this
            simp [z, this]
          · have : ¬ n = (xs.map intD).length := fun w => z (hn.1 w)
            simp at this
            simp [z]
            omega
        rw [← this]
        simpa using h
      · rw [e2] at h; exact h
  | _ => exact h
theorem v_is_move_of : VD g_is_move_of S_is_move_of 2 0 := fun ds Q _ h => by
  obtain ⟨d, n, rfl, h⟩ := h
  unfold g_is_move_of
  walk_at "dd"
  refine ⟨_, rfl, ?_⟩
  unfold isMoveOf at h
  refine bool_ways (fun e => ?_) (fun e => ?_)
  · rw [e] at h
    cases d with
    | tuple xs =>
      walk_at "dd"
      refine ⟨rfl, rfl, ?_⟩
      simp only [PyData.eqv]
      rw [show ((xs.length : Int) == n) = decide ((xs.length : Int) = n) from by rw [Bool.eq_iff_iff]; simp]
      simpa using h
    | _ => simp [isMove] at e
  · rw [e] at h; exact h
theorem v_check_move_of : VD g_check_move_of S_check_move_of 2 0 := fun ds Q _ h => by
  obtain ⟨d, n, rfl, h1, h⟩ := h
  unfold g_check_move_of
  walk_at "dd"
  refine ⟨_, _, rfl, ?_⟩
  rw [h1]
  exact h
theorem v_check_makers : VD g_check_makers S_check_makers 2 1 := fun ds Q _ h => by
  obtain ⟨n, mk, rfl, hk, h⟩ := h
  have h1 := hk.most
  have h2 := hk.few
  unfold g_check_makers
  walk_at "dd"
  refine ⟨_, _, _, rfl, by simp [isI]; omega, by omega, by omega, ?_⟩
  unfold tR
  walk_at "dd"
  rw [show decide (((24 : Int)) < ((mk.length : Nat) : Int)) = false from by simp; omega]
  walk_at "dd"
  refine wpFor_inv (fun ρ => ∃ x, ρ = [some (.im (.int n)), some (.im (tR mk)), x]) ⟨_, rfl⟩ (fun d hd ρ K i k => ?_) (fun ρ i => ?_)
  · obtain ⟨x, rfl⟩ := i
    obtain ⟨m, hm, rfl⟩ := List.mem_map.mp hd
    walk_at "dd"
    exact ⟨_, _, rfl, (move_perm (hk.move m hm) h1).2, k _ ⟨_, rfl⟩⟩
  · exact h
theorem v__check_way : VD g__check_way S__check_way 4 0 := fun ds Q _ h => by
  obtain ⟨n, mk, s, g, rfl, hk, hs, hg, h⟩ := h
  have h1 := hk.most
  unfold g__check_way
  walk_at "dd"
  exact ⟨_, _, rfl, hk, _, _, rfl, isTh_in hs.1 hs.2 (by omega), _, _, rfl, isTh_in hg.1 hg.2 (by omega), h⟩
end Dn
set_option Elab.async false
set_option linter.all false
set_option maxRecDepth 100000
set_option autoImplicit false
set_option maxHeartbeats 4000000
namespace Dn
open PySem L2 Evl PySem.Spec PyProof.Rows
local macro_rules | `(tactic| walk_at "dd") => `(tactic| simp only [sSeq, sIf, sSet, sRet, sRetN, sNx, sEx, sAsg, sPar, dTOr, dTAnd, dTNot, dTst, dIsi, dVar, dC, dBin, dChain, dNeg, dI2, dAnd, dOr, dNot, dIfE, dCall, dCallF, aCons, aNil, dTup, lLst, dOfL, xIm, xOw, gNm, gTp, gsCons, gsNil, dYes, envD, dLen_tR, dLen_tI, dLen_tup, dLen_lst, seq_tR, seq_tI, seq_tup, seq_lst, dIs, dIsNot, dNe, dEq, dTupOf, dSl, oNone, oSome, iSq, iEn, iR1, iR2, sFor, lLc, sNever, dTRg, rg1, rg2, lRg, wipeD, isN,
  dIxP, sSub, dApp, dPopAt, dExt, dCallM, dCallO, dBinO, dTupO, lOf, lOfO, sRetO, iOw, dVarF, lCat, lCall, dAbs, dMax2, dMin2, dInt, atO, setO, MO.getL, MO.putL, Option.isSome_some,
  dInK, dGetK, dGetD, dInD, dGet1, lKeys, lSort, dLenSet, dRevT, sPutK, xDct, xDct1, sRetK, atK, keyD, sAugI,
  kit_int, kit_bool, kit_tuple, kit_str, List.map_cons, List.map_nil, List.cons_append, List.nil_append, List.replicate, List.set_cons_zero, List.set_cons_succ, List.getElem?_cons_zero, List.getElem?_cons_succ, List.length_cons, List.length_nil, List.length_map, Nat.reduceAdd, Nat.reduceSub, Bool.not_true, Bool.not_false, Bool.false_eq_true, if_true, if_false, true_and, reduceCtorEq, Bool.true_eq_false, rgD_rgI, Option.some.injEq, exists_eq_left', and_true])
theorem mem_rg {l : List Int} {n : Nat} (h : l.Perm (rgI n)) {x : Int} (hx : x ∈ l) : 0 ≤ x ∧ x < n := mem_rgI.mp (h.mem_iff.1 hx)
theorem ix_im {n : Nat} {m : List Int} {x : Int} {Q : D → Prop} (h : List.Perm m (rgI n)) (x0 : 0 ≤ x) (x1 : x < n) (q : Q (.int (im m x))) : dIx (tI m) (.int x) Q :=
  ixI x0 (by rw [h.length_eq, rgI_len]; exact x1) q
theorem wk_len (f : List Int → D) (w : Wy) : (wk f w).length = w.length := by unfold wk; simp
theorem atI_n {α : Type} {l : List α} {r : Nat} {x : α} (h : l[r]? = some x) : atI l (r : Int) = some x := by
  have hr := (List.getElem?_eq_some_iff.mp h).1
  unfold atI ixN
  rw [if_pos (by omega), if_pos (by omega)]
  simpa using h
def qd (w : Wy) : List D := w.map fun e => .int e.1
theorem qd_at {w : Wy} {r : Nat} {e : Int × List Int} (h : w[r]? = some e) : (qd w)[r]? = some (.int e.1) := by unfold qd; rw [List.getElem?_map, h]; rfl
theorem v__ways_from : VD g__ways_from S__ways_from 2 6 := fun ds Q _ h => by
  obtain ⟨n, mk, s, rfl, hk, hs, h⟩ := h
  have h1 := hk.most
  unfold g__ways_from
  walk_at "dd"
  refine ⟨by decide, by decide, ?_⟩
  unfold sWh
  refine wpWh_lt (β := Wy × Nat × Nat) (fun b ρ => ∃ x1 x2 x3, ρ = [some (.im (tR mk)), some (.im (.int s)), some (.ow (.dct (wk tI b.1))), some (.ow (.lst (qd b.1))), some (.im (.int (b.2.1 : Nat))), x1, x2, x3] ∧ Wg n mk s b.1 ∧ b.2.1 ≤ b.1.length ∧ n = b.2.1 + b.2.2 ∧ run mk b.2.2 b.1 b.2.1 = waysOf mk n s)
    (fun b => b.2.2) (fun b ρ K i k => ?_) (b := ([(s, [])], 0, n)) ⟨_, _, _, rfl, Wg.one hs.1 hs.2, by simp, by simp, rfl⟩
  obtain ⟨w, r, kk⟩ := b
  obtain ⟨x1, x2, x3, rfl, hw, hr, hn, he⟩ := i
  have hl := hw.len
  try walk_at "dd"
  have ql : (qd w).length = w.length := by unfold qd; simp
  refine ⟨rfl, ?_⟩
  rw [ql]
  refine ite_ways (fun e => ?_) (fun e => ?_)
  · have lt : r < w.length := by simpa using e
    obtain ⟨a, ha⟩ : ∃ a, w[r]? = some a := ⟨_, List.getElem?_eq_getElem lt⟩
    have ra := hw.rng a (List.mem_of_getElem? ha)
    try walk_at "dd"
    dsimp only at hw hr hn he hl
    refine ⟨_, _, _, rfl, rfl, atI_n (qd_at ha), ?_⟩
    rw [enD_map mk tI []]
    refine wpFor_fold (rgI mk.length) _ (st1 mk a.1 a.2) (fun w' ρ => ∃ x2 x3, ρ = [some (.im (tR mk)), some (.im (.int s)), some (.ow (.dct (wk tI w'))), some (.ow (.lst (qd w'))), some (.im (.int (r : Nat))), some (.im (.int a.1)), x2, x3] ∧ Wg n mk s w' ∧ w <+: w') ⟨_, _, rfl, hw, List.prefix_refl w⟩ (fun i hi w' ρ K2 p k2 => ?_) (fun ρ p => ?_)
    · obtain ⟨x2, x3, rfl, hw', pre⟩ := p
      have hp := hk.move _ (hk.at hi)
      have l' := hw'.len
      have ha' := pre_at pre ha
      try walk_at "dd"
      have hz : (wk tI w').length < sizeLine := by
        rw [wk_len]
        have : (64 : Nat) < sizeLine := by decide
        omega
      refine ix_im hp ra.1 ra.2 ⟨_, _, rfl, rfl, ?_⟩
      rw [valD_wk]
      have hst : st1 mk a.1 a.2 w' i = if (lk w' (im (mk.getD i.toNat []) a.1)).isSome = true then w' else w' ++ [(im (mk.getD i.toNat []) a.1, a.2 ++ [i])] := rfl
      have good := hw'.st1 hk ha' hi
      have gp := pre.trans (st1_pre mk a.1 a.2 w' i)
      cases hv : lk w' (im (mk.getD i.toNat []) a.1) with
      | some q =>
        rw [hv, if_pos (show (some q).isSome = true from rfl)] at hst
        simp only [Option.map_some, Option.isSome_some, Bool.not_true]
        try walk_at "dd"
        rw [hst] at k2 good gp
        exact k2 _ ⟨_, _, rfl, good, gp⟩
      | none =>
        rw [hv, if_neg (show ¬ (none : Option (List Int)).isSome = true by simp)] at hst
        simp only [Option.map_none, Option.isSome_none, Bool.not_false]
        try walk_at "dd"
        rw [hst] at k2 good gp
        have pl := (hw'.path r a ha').1
        refine ⟨_, _, tI a.2, rfl, rfl, by rw [valD_wk, lk_at hw'.nd ha']; rfl, by decide, ?_⟩
        refine ⟨by simp; omega, ?_⟩
        refine ix_im hp ra.1 ra.2 ⟨_, _, rfl, rfl, hz, ?_⟩
        refine ix_im hp ra.1 ra.2 ⟨by unfold qd; simp; omega, ?_⟩
        have e1 := putD_wk tI w' _ (a.2 ++ [i]) hv
        have e2 : PyData.tuple (List.map PyData.int a.snd ++ [PyData.int i]) = tI (a.2 ++ [i]) := by unfold tI; simp
        have e3 : qd (w' ++ [(im (mk.getD i.toNat []) a.1, a.2 ++ [i])]) = qd w' ++ [.int (im (mk.getD i.toNat []) a.1)] := by unfold qd; simp
        rw [e2, e1, ← e3]
        exact k2 _ ⟨_, _, rfl, good, gp⟩
    · obtain ⟨x2, x3, rfl, hw', pre⟩ := p
      try walk_at "dd"
      have l' := hw'.len
      have e1 : run mk kk w r = run mk (kk - 1) (proc mk a.1 a.2 w) (r + 1) := by
        obtain ⟨k', rfl⟩ : ∃ k', kk = k' + 1 := ⟨kk - 1, by omega⟩
        rw [run, ha]
        rfl
      have pl : w.length ≤ (proc mk a.1 a.2 w).length := pre.length_le
      rw [show ((r : Int) + 1) = ((r + 1 : Nat) : Int) from by simp]
      refine k (proc mk a.1 a.2 w, r + 1, kk - 1) _ (by show kk - 1 < kk; omega) ⟨_, _, _, rfl, hw', ?_, ?_, ?_⟩
      · show r + 1 ≤ (proc mk a.1 a.2 w).length; omega
      · show n = r + 1 + (kk - 1); omega
      · show run mk (kk - 1) (proc mk a.1 a.2 w) (r + 1) = _
        rw [← e1]; exact he
  · dsimp only at hw hr hn he hl
    have ge : w.length ≤ r := by simpa using e
    have : run mk kk w r = w := by
      cases kk with
      | zero => rfl
      | succ k' => rw [run, List.getElem?_eq_none_iff.mpr ge]
    rw [this] at he
    subst he
    exact h
end Dn
set_option Elab.async false
set_option linter.all false
set_option maxRecDepth 100000
set_option autoImplicit false
set_option maxHeartbeats 4000000
namespace Dn
open PySem L2 Evl PySem.Spec PyProof.Rows
local macro_rules | `(tactic| walk_at "dd") => `(tactic| simp only [sSeq, sIf, sSet, sRet, sRetN, sNx, sEx, sAsg, sPar, dTOr, dTAnd, dTNot, dTst, dIsi, dVar, dC, dBin, dChain, dNeg, dI2, dAnd, dOr, dNot, dIfE, dCall, dCallF, aCons, aNil, dTup, lLst, dOfL, xIm, xOw, gNm, gTp, gsCons, gsNil, dYes, envD, dLen_tR, dLen_tI, dLen_tup, dLen_lst, seq_tR, seq_tI, seq_tup, seq_lst, dIs, dIsNot, dNe, dEq, dTupOf, dSl, oNone, oSome, iSq, iEn, iR1, iR2, sFor, lLc, sNever, dTRg, rg1, rg2, lRg, wipeD, isN,
  dIxP, sSub, dApp, dPopAt, dExt, dCallM, dCallO, dBinO, dTupO, lOf, lOfO, sRetO, iOw, dVarF, lCat, lCall, dAbs, dMax2, dMin2, dInt, atO, setO, MO.getL, MO.putL, Option.isSome_some,
  dInK, dGetK, dGetD, dInD, dGet1, lKeys, lSort, dLenSet, dRevT, sPutK, xDct, xDct1, sRetK, atK, keyD, sAugI,
  kit_int, kit_bool, kit_tuple, kit_str, List.map_cons, List.map_nil, List.cons_append, List.nil_append, List.replicate, List.set_cons_zero, List.set_cons_succ, List.getElem?_cons_zero, List.getElem?_cons_succ, List.length_cons, List.length_nil, List.length_map, Nat.reduceAdd, Nat.reduceSub, Bool.not_true, Bool.not_false, Bool.false_eq_true, if_true, if_false, true_and, reduceCtorEq, Bool.true_eq_false, rgD_rgI, Option.some.injEq, exists_eq_left', and_true])
theorem v_way : VD g_way S_way 4 0 := fun ds Q _ h => by
  obtain ⟨n, mk, s, g, rfl, hk, hs, hg, h⟩ := h
  unfold g_way
  walk_at "dd"
  refine ⟨n, mk, s, g, rfl, hk, hs, hg, n, mk, s, rfl, hk, hs, ⟨_, rfl⟩, _, _, rfl, rfl, ?_⟩
  rw [valD_wk]
  cases e : lk (waysOf mk n s) g with
  | none => rw [e] at h; exact h
  | some p => rw [e] at h; exact h
theorem row_ints {m n : Int} {d : D} (h : isRow m n d = true) : ∃ ns : List Int, d = tI ns ∧ (ns.length : Int) = m ∧ ∀ i, i ∈ ns → 0 ≤ i ∧ i < n := by
  cases d with
  | tuple xs =>
    simp only [isRow, Bool.and_eq_true, decide_eq_true_eq] at h
    refine ⟨xs.map intD, by unfold tI; rw [← all_ints h.2], by simpa using h.1, fun i hi => ?_⟩
    obtain ⟨x, hx, rfl⟩ := List.mem_map.mp hi
    obtain ⟨j, rfl, h1, h2⟩ := isTh_int (List.all_eq_true.mp h.2 x hx)
    exact ⟨h1, h2⟩
  | _ => simp [isRow] at h
theorem walk_rng {n : Nat} {mk : List (List Int)} (hk : Mk n mk) {p : List Int} {a : Int} (ha : 0 ≤ a ∧ a < n) (hp : ∀ i, i ∈ p → 0 ≤ i ∧ i < mk.length) : 0 ≤ walk mk a p ∧ walk mk a p < n :=
  walk_in hk (fun x => 0 ≤ x ∧ x < n) (fun x m hx hm => im_in (hk.move m hm) hx.1 hx.2) p a ha fun i hi => mem_rgI.mpr (hp i hi)
theorem v_is_way : VD g_is_way S_is_way 5 3 := fun ds Q _ h => by
  obtain ⟨n, mk, s, g, d, rfl, hk, hs, hg, hd, h⟩ := h
  have h1 := hk.few
  unfold g_is_way
  walk_at "dd"
  refine ⟨n, mk, s, g, rfl, hk, hs, hg, n, mk, s, rfl, hk, hs, ⟨_, rfl⟩, _, _, rfl, rfl, ?_⟩
  rw [valD_wk]
  unfold isWay at h
  cases e : lk (waysOf mk n s) g with
  | none => rw [e] at h; exact h
  | some p =>
    rw [e] at h
    dsimp only [Option.map_some, Option.getD_some] at h ⊢
    unfold tI
    try walk_at "dd"
    refine ⟨d, _, _, rfl, hd, by omega, ?_⟩
    refine ite_ways (fun e2 => ?_) (fun e2 => ?_)
    · rw [show isRow (p.length : Int) (mk.length : Int) d = false from by simpa using e2] at h
      exact h
    · rw [show isRow (p.length : Int) (mk.length : Int) d = true from by simpa using e2] at h
      obtain ⟨ns, rfl, nl, hn⟩ := row_ints (m := p.length) (n := mk.length) (d := d) (by simpa using e2)
      simp only [tI, intD_map, Bool.true_and] at h
      unfold tI
      try walk_at "dd"
      refine wpFor_cps (fun done ρ => ∃ (x : Option SV) (ns1 : List Int), done = ns1.map PyData.int ∧ (∀ i, i ∈ ns1 → 0 ≤ i ∧ i < mk.length) ∧ ρ = [some (.im (.int n)), some (.im (tR mk)), some (.im (.int s)), some (.im (.int g)), some (.im (tI ns)), some (.im (tI p)), some (.im (.int (walk mk s ns1))), x]) ⟨_, [], rfl, by simp, rfl⟩ (fun done d rest ρ K e3 p3 k => ?_) (fun ρ p3 => ?_)
      · obtain ⟨x, ns1, rfl, hn1, rfl⟩ := p3
        obtain ⟨l1, i, l2, rfl, e4, rfl, rfl⟩ := map_split e3
        obtain rfl : ns1 = l1 := by
          have := congrArg (List.map intD) e4
          rw [intD_map, intD_map] at this
          exact this
        have hi := hn i (by simp)
        try walk_at "dd"
        have hm := hk.at (mem_rgI.mpr hi)
        have hw := walk_rng hk hs hn1
        refine ixR hi.1 hi.2 (ix_im (hk.move _ hm) hw.1 hw.2 ?_)
        rw [← walk_snoc]
        exact k _ ⟨_, ns1 ++ [i], by simp, fun j hj => by
          rcases List.mem_append.mp hj with hj | hj
          · exact hn1 j hj
          · rw [List.mem_singleton.mp hj]; exact hi, rfl⟩
      · obtain ⟨x, ns1, e4, hn1, rfl⟩ := p3
        obtain rfl : ns = ns1 := by
          have := congrArg (List.map intD) e4
          rw [intD_map, intD_map] at this
          exact this
        try walk_at "dd"
        refine ⟨rfl, rfl, ?_⟩
        simp only [PyData.eqv]
        rw [show (walk mk s ns == g) = decide (walk mk s ns = g) from by rw [Bool.eq_iff_iff]; simp]
        exact h
theorem v_orbits : VD g_orbits S_orbits 2 5 := fun ds Q _ h => by
  obtain ⟨n, mk, rfl, hk, h⟩ := h
  have h1 := hk.most
  have hsz : (1000 : Nat) < sizeLine := by decide
  unfold g_orbits
  walk_at "dd"
  refine ⟨n, mk, rfl, hk, ⟨by decide, rgd (by omega), ?_⟩⟩
  refine wpFor_cps (fun done ρ => ∃ kvs lots x2 x3 x4, ρ = [some (.im (.int n)), some (.im (tR mk)), some (.ow (.dct kvs)), some (.ow (.lst (lots.map tI))), x2, x3, x4] ∧ kvs.length ≤ done.length * 24 ∧ lots.length ≤ done.length ∧
      (∀ l, l ∈ lots → l.length ≤ n ∧ ∃ a : Int, 0 ≤ a ∧ a < n ∧ ∀ x, x ∈ l ↔ ky mk n a x) ∧ (∀ x : Int, (valD kvs (.inl x)).isSome = true ↔ ∃ l, l ∈ lots ∧ x ∈ l) ∧ ∀ x, PyData.int x ∈ done → ∃ l, l ∈ lots ∧ x ∈ l)
    ⟨[], [], _, _, _, rfl, by simp, by simp, by simp, by simp [valD], by simp⟩ (fun done d rest ρ K e p k => ?_) (fun ρ p => ?_)
  · obtain ⟨kvs, lots, x2, x3, x4, rfl, kl, ll, he, hv, hd⟩ := p
    have dl := congrArg List.length e
    simp [rgI_len] at dl
    have hdm : d ∈ (rgI n).map PyData.int := by rw [e]; simp
    obtain ⟨a, ha, rfl⟩ := List.mem_map.mp hdm
    have ra := mem_rgI.mp ha
    try walk_at "dd"
    refine ⟨_, _, rfl, rfl, ?_⟩
    refine ite_ways (fun e2 => ?_) (fun e2 => ?_)
    · have nw : ¬ (valD kvs (.inl a)).isSome = true := by simpa using e2
      try walk_at "dd"
      refine ⟨n, mk, a, rfl, hk, ra, _, rfl, ?_⟩
      have W := (ways_ok hk ra.1 ra.2).1
      have wl := W.len
      refine ⟨(waysOf mk n a).map (·.1), by simp [wk, keyB, Function.comp_def, seqD], ⟨_, rfl⟩, fun ns hp hs => ?_⟩
      have nl : ns.length ≤ n := by rw [hp.length_eq]; simpa using wl
      have nm : ∀ x, x ∈ ns ↔ ky mk n a x := fun x => by
        rw [hp.mem_iff]
        unfold ky
        rw [lk_some]
        simp only [List.mem_map]
      try walk_at "dd"
      refine wpFor_cps (fun done2 ρ => ∃ kvs2 x4, ρ = [some (.im (.int n)), some (.im (tR mk)), some (.ow (.dct kvs2)), some (.ow (.lst (lots.map tI))), some (.im (.int a)), some (.im (.list (ns.map PyData.int))), x4] ∧ kvs2.length ≤ done.length * 24 + done2.length ∧
        ∀ x : Int, (valD kvs2 (.inl x)).isSome = true ↔ (∃ l, l ∈ lots ∧ x ∈ l) ∨ PyData.int x ∈ done2) ⟨kvs, _, rfl, by simpa using kl, by simpa using hv⟩ (fun done2 d rest2 ρ K2 e3 p k2 => ?_) (fun ρ p => ?_)
      · obtain ⟨kvs2, x4, rfl, kl2, hv2⟩ := p
        have dl2 := congrArg List.length e3
        simp at dl2
        obtain ⟨x, hx, rfl⟩ : ∃ x, x ∈ ns ∧ PyData.int x = d := List.mem_map.mp (by rw [e3]; simp)
        try walk_at "dd"
        refine ⟨_, _, rfl, rfl, by omega, ?_⟩
        refine k2 _ ⟨_, _, rfl, ?_, fun y => ?_⟩
        · have := putD_len (kvs := kvs2) (k := .inl x) (d := .bool true)
          simp
          omega
        · rw [putD_has, hv2 y]
          simp only [List.mem_append, List.mem_singleton, Sum.inl.injEq, PyData.int.injEq]
          constructor
          · rintro (h | h | h)
            · exact .inr (.inr h)
            · exact .inl h
            · exact .inr (.inl h)
          · rintro (h | h | h)
            · exact .inr (.inl h)
            · exact .inr (.inr h)
            · exact .inl h
      · obtain ⟨kvs2, x4, rfl, kl2, hv2⟩ := p
        simp at kl2
        try walk_at "dd"
        refine ⟨by omega, ?_⟩
        rw [show lots.map tI ++ [PyData.tuple (ns.map PyData.int)] = (lots ++ [ns]).map tI from by simp [tI]]
        refine k _ ⟨_, _, _, _, _, rfl, by simp; omega, by simp; omega, fun l hl => ?_, fun x => ?_, fun x hx => ?_⟩
        · rcases List.mem_append.mp hl with hl | hl
          · exact he l hl
          · rw [List.mem_singleton.mp hl]; exact ⟨nl, a, ra.1, ra.2, nm⟩
        · rw [hv2 x]
          simp only [List.mem_append, List.mem_singleton, List.mem_map, PyData.int.injEq, exists_eq_right]
          constructor
          · rintro (⟨l, h1, h2⟩ | h)
            · exact ⟨l, .inl h1, h2⟩
            · exact ⟨ns, .inr rfl, h⟩
          · rintro ⟨l, h1 | rfl, h2⟩
            · exact .inl ⟨l, h1, h2⟩
            · exact .inr h2
        · simp only [List.mem_append, List.mem_singleton, PyData.int.injEq] at hx
          rcases hx with hx | rfl
          · obtain ⟨l, h1, h2⟩ := hd x hx
            exact ⟨l, by simp [h1], h2⟩
          · exact ⟨ns, by simp, (nm x).2 (ky_self hk ra.1 ra.2)⟩
    · have yw : (valD kvs (.inl a)).isSome = true := by simpa using e2
      try walk_at "dd"
      refine k _ ⟨_, _, _, _, _, rfl, by simp; omega, by simp; omega, he, hv, fun x hx => ?_⟩
      simp only [List.mem_append, List.mem_singleton, PyData.int.injEq] at hx
      rcases hx with hx | rfl
      · exact hd x hx
      · exact (hv x).1 yw
  · obtain ⟨kvs, lots, x2, x3, x4, rfl, kl, ll, he, hv, hd⟩ := p
    simp [rgI_len] at ll
    try walk_at "dd"
    exact h lots ⟨ll, he, fun x x0 x1 => hd x (List.mem_map.mpr ⟨x, mem_rgI.mpr ⟨x0, x1⟩, rfl⟩)⟩
end Dn
set_option Elab.async false
set_option linter.all false
set_option maxRecDepth 100000
set_option autoImplicit false
set_option maxHeartbeats 4000000
namespace Dn
open PySem L2 Evl PySem.Spec PyProof.Rows
local macro_rules | `(tactic| walk_at "dd") => `(tactic| simp only [sSeq, sIf, sSet, sRet, sRetN, sNx, sEx, sAsg, sPar, dTOr, dTAnd, dTNot, dTst, dIsi, dVar, dC, dBin, dChain, dNeg, dI2, dAnd, dOr, dNot, dIfE, dCall, dCallF, aCons, aNil, dTup, lLst, dOfL, xIm, xOw, gNm, gTp, gsCons, gsNil, dYes, envD, dLen_tR, dLen_tI, dLen_tup, dLen_lst, seq_tR, seq_tI, seq_tup, seq_lst, dIs, dIsNot, dNe, dEq, dTupOf, dSl, oNone, oSome, iSq, iEn, iR1, iR2, sFor, lLc, sNever, dTRg, rg1, rg2, lRg, wipeD, isN,
  dIxP, sSub, dApp, dPopAt, dExt, dCallM, dCallO, dBinO, dTupO, lOf, lOfO, sRetO, iOw, dVarF, lCat, lCall, dAbs, dMax2, dMin2, dInt, atO, setO, MO.getL, MO.putL, Option.isSome_some,
  dInK, dGetK, dGetD, dInD, dGet1, lKeys, lSort, dLenSet, dRevT, sPutK, xDct, xDct1, sRetK, atK, keyD, sAugI,
  kit_int, kit_bool, kit_tuple, kit_str, List.map_cons, List.map_nil, List.cons_append, List.nil_append, List.replicate, List.set_cons_zero, List.set_cons_succ, List.getElem?_cons_zero, List.getElem?_cons_succ, List.length_cons, List.length_nil, List.length_map, Nat.reduceAdd, Nat.reduceSub, Bool.not_true, Bool.not_false, Bool.false_eq_true, if_true, if_false, true_and, reduceCtorEq, Bool.true_eq_false, rgD_rgI, Option.some.injEq, exists_eq_left', and_true])
theorem dc_ok (a b c : Int) : Dc [.int a, .int b, .int c] := ⟨a, b, c, rfl⟩
theorem v__law_dice : VL g__law_dice S__law_dice 2 2 := fun ds Q _ h => by
  obtain ⟨s, i, rfl, i0, h⟩ := h
  unfold g__law_dice
  have e16 : CPow 10 16 := by unfold CPow; decide +kernel
  have e60 : CPow 10 60 := by unfold CPow; decide +kernel
  have m60 : CMul (10 ^ Int.toNat 60) (10 ^ Int.toNat 60) ∨ CMulW (10 ^ Int.toNat 60) (10 ^ Int.toNat 60) := .inr (by unfold CMulW; decide +kernel)
  have p60 : (0 : Int) < 10 ^ Int.toNat 60 * 10 ^ Int.toNat 60 := by decide +kernel
  have s877 : CMul 877 i ∨ CMulW 877 i := cm_l ⟨by decide, by decide⟩
  have fin : ∀ z : Int, dAbs [.int z] fun z_1 => CPow 10 16 ∧ dSub z_1 (PyData.int (10 ^ Int.toNat 16)) fun z_2 => dMax2 [.int 0, z_2] fun z_3 => CPow 10 60 ∧ CPow 10 60 ∧ (CMul (10 ^ Int.toNat 60) (10 ^ Int.toNat 60) ∨ CMulW (10 ^ Int.toNat 60) (10 ^ Int.toNat 60)) ∧
      dMod z_3 (PyData.int (10 ^ Int.toNat 60 * 10 ^ Int.toNat 60)) fun z_4 => dAbs [.int z] fun z_5 => dMod z_5 (PyData.int 1152921504606845527) fun z_6 => dMulA z_6 (PyData.int 79) fun z_7 => (CMul 877 i ∨ CMulW 877 i) ∧ dAdd z_7 (PyData.int (877 * i)) fun z_8 =>
        dLt (.int z) (PyData.int 0) fun z => dInt [z] fun z => dMulA (PyData.int 41) z fun z => dAdd z_8 z fun z => dAdd z (PyData.int 23) fun z => 3 ≤ 16777216 ∧ Q [z_4, z, PyData.int 0] := fun z =>
    ⟨e16, trivial, e60, e60, m60, p60, (by show (0 : Int) < 1152921504606845527; decide), cm_r ⟨by decide, by decide⟩, s877, trivial, cm_l ⟨by decide, by decide⟩, by decide, h _ (dc_ok _ _ _)⟩
  walk_at "dd"
  refine ⟨trivial, ?_⟩
  refine ite_ways (b := decide (i < ((s.map PyData.int).length : Int))) (fun z => ?_) (fun z => ?_)
  · have z' : i < s.length := by simpa using z
    refine ⟨.int (s.getD i.toNat 0), ?_, fin _⟩
    have := atI_in (d := PyData.int 0) i0 (show i < ((s.map PyData.int).length : Int) by simpa using z')
    rw [show (s.map PyData.int).getD i.toNat (PyData.int 0) = .int (s.getD i.toNat 0) from by simp [List.getD]] at this
    exact this
  · exact ⟨cm_l ⟨by decide, by decide⟩, fin _⟩
theorem v__law_roll : VM g__law_roll S__law_roll 2 3 := fun l ms ds Q _ h => by
  obtain ⟨t, rfl, t0, t1, ⟨a, b, c, rfl⟩, h⟩ := h
  unfold g__law_roll
  walk_at "dd"
  refine ⟨_, _, _, rfl, rfl, rfl, trivial, ?_⟩
  refine ite_ways (b := decide ((0 : Int) < a)) (fun z => ?_) (fun z => ?_)
  · refine ⟨_, _, _, rfl, rfl, rfl, t0, ?_⟩
    refine ⟨_, _, _, rfl, rfl, rfl, cd_t t0 t1, ?_⟩
    exact ⟨_, _, _, rfl, rfl, rfl, _, rfl, h _ _ (Int.emod_nonneg _ (by omega)) (Int.emod_lt_of_pos _ t0) (dc_ok _ _ _)⟩
  · refine ⟨_, _, _, rfl, rfl, rfl, ?_⟩
    refine ⟨_, _, _, rfl, rfl, rfl, ?_⟩
    refine ⟨_, _, _, rfl, rfl, rfl, ?_⟩
    refine ⟨_, _, _, rfl, rfl, rfl, cm_l ⟨by decide, by decide⟩, (by show (0 : Int) < 2305843009213691579; decide), ?_⟩
    have hb : ∀ x : Int, -(2 ^ 64) < x % 2305843009213691579 ∧ x % 2305843009213691579 < 2 ^ 64 := fun x => by
      have h1 := Int.emod_nonneg x (show (2305843009213691579 : Int) ≠ 0 by decide)
      have h2 := Int.emod_lt_of_pos x (show (0 : Int) < 2305843009213691579 by decide)
      omega
    refine ⟨cm_l (hb _), ?_⟩
    refine ⟨_, _, _, rfl, rfl, rfl, cm_l ⟨by decide, by decide⟩, (by show (0 : Int) < 2305843009213692227; decide), cm_r ⟨by decide, by decide⟩, ?_⟩
    refine ⟨⟨by decide, by decide +kernel⟩, t0, _, rfl, h _ _ (Int.emod_nonneg _ (by omega)) (Int.emod_lt_of_pos _ t0) (dc_ok _ _ _)⟩
theorem v__law_mixed : VM g__law_mixed S__law_mixed 2 3 := fun l ms ds Q _ h => by
  obtain ⟨d, xs, rfl, hd, hl, hm, h⟩ := h
  unfold g__law_mixed
  walk_at "dd"
  rw [hd]
  dsimp only
  rw [dLen_seq hd]
  refine ⟨by omega, ⟨by omega, by omega, by omega, by omega⟩, ?_⟩
  rw [rgD_rgI]
  refine wpFor_cps (fun done ρ => ∃ ms L Fd x, ρ = [some (SV.ow (MO.par l (MO.lst ms))), some (SV.im d), some (SV.ow (MO.lst L)), some (SV.ow (MO.lst Fd)), x] ∧ Dc ms ∧ (Fd ++ L).Perm xs ∧ Fd.length = done.length) ⟨ms, xs, [], _, rfl, hm, by simp, rfl⟩ (fun done d' rest ρ K e p k => ?_) (fun ρ p => ?_)
  · obtain ⟨ms, L, Fd, x, rfl, hm, hp, hf⟩ := p
    have hlen := hp.length_eq
    have he := congrArg List.length e
    simp [rgI_len] at he hlen
    walk_at "dd"
    refine ⟨rfl, _, rfl, by omega, by simp only [T60]; omega, hm, fun r ms' r0 r1 hm' => ?_⟩
    have hr : r.toNat < L.length := by omega
    refine ⟨L, r, r.toNat, L[r.toNat], rfl, rfl, r0, r1, rfl, List.getElem?_eq_getElem hr, by omega, by omega, ?_⟩
    refine k _ ⟨ms', L.eraseIdx r.toNat, Fd ++ [L[r.toNat]], _, rfl, hm', ?_, by simp [hf]⟩
    refine List.Perm.trans ?_ hp
    rw [List.append_assoc]
    refine List.Perm.append_left _ ?_
    exact erase_permD hr
  · obtain ⟨ms, L, Fd, x, rfl, hm, hp, hf⟩ := p
    have hlen := hp.length_eq
    simp [rgI_len] at hf hlen
    have : L = [] := List.length_eq_zero_iff.mp (by omega)
    subst this
    exact ⟨ms, rfl, h Fd ms (by simpa using hp) hm⟩
theorem perm_ints {ys : List D} {ns : List Int} (h : ys.Perm (ns.map PyData.int)) : ∃ ms : List Int, ys = ms.map PyData.int ∧ ms.Perm ns := by
  have : ∀ (xs ys : List D), xs.Perm ys → ∀ ns : List Int, ys = ns.map PyData.int → ∃ ms : List Int, xs = ms.map PyData.int ∧ ms.Perm ns := by
    intro xs ys h
    induction h with
    | nil => intro ns e; cases ns with | nil => exact ⟨[], rfl, .nil⟩ | cons _ _ => cases e
    | cons x h ih =>
      intro ns e
      cases ns with
      | nil => cases e
      | cons n ns =>
        simp at e
        obtain ⟨ms, e1, e2⟩ := ih ns e.2
        exact ⟨n :: ms, by simp [e1, e.1], e2.cons n⟩
    | swap x y l =>
      intro ns e
      match ns, e with
      | a :: b :: ns, e =>
        simp at e
        exact ⟨b :: a :: ns, by simp [e.1, e.2.1, e.2.2], .swap a b ns⟩
    | trans h1 h2 ih1 ih2 =>
      intro ns e
      obtain ⟨ms, e1, e2⟩ := ih2 ns e
      obtain ⟨ms2, e3, e4⟩ := ih1 ms e1
      exact ⟨ms2, e3, e4.trans e2⟩
  exact this _ _ h _ rfl
theorem v__law_drawn_move : VM g__law_drawn_move S__law_drawn_move 2 0 := fun l ms ds Q _ h => by
  obtain ⟨n, rfl, hn, hm, h⟩ := h
  unfold g__law_drawn_move
  walk_at "dd"
  refine ⟨⟨by omega, by omega, by omega, by omega⟩, _, _, rfl, rfl, by simp [rgI_len]; omega, hm, fun ys ms' hp hm' => ?_⟩
  obtain ⟨m, rfl, hp2⟩ := perm_ints hp
  exact ⟨ms', rfl, h m ms' hp2 hm'⟩
end Dn
set_option Elab.async false
set_option linter.all false
set_option maxRecDepth 100000
set_option autoImplicit false
set_option maxHeartbeats 4000000
namespace Dn
open PySem L2 Evl PySem.Spec PyProof.Rows
/-! ### what each def is to do -/
def S__law_undone (ds : List D) (Q : D → Prop) : Prop := ∃ m, ds = [tI m] ∧ m.length ≤ 1000 ∧ (∀ x, x ∈ m → 0 ≤ x ∧ x < m.length) ∧ ∀ u : List Int, u.length = m.length → (∀ x, x ∈ u → 0 ≤ x ∧ x < m.length) → Q (tI u)
def S__law_places_of (ds : List D) (Q : D → Prop) : Prop := ∃ c s : Nat, ds = [.int c, .int s] ∧ 1 ≤ s ∧ c * s ≤ 1000 ∧ Q (.list ((rgI (c * s)).map fun k => .tuple [.int (k / s), .int (k % s)]))
/-- rows of n integers below n -/
def Mv (n : Nat) (m : List Int) : Prop := m.length = n ∧ ∀ x, x ∈ m → 0 ≤ x ∧ x < n
def Dw (n : Nat) (C : List (List Int)) : Prop := C.length = n ∧ ∀ r, r ∈ C → Mv n r
def tL (C : List (List Int)) : D := .list (C.map tI)
/-- rows of pairs -/
def tP (p : Int × Int) : D := .tuple [.int p.1, .int p.2]
def tPs (r : List (Int × Int)) : D := .tuple (r.map tP)
def tRP (R : List (List (Int × Int))) : D := .tuple (R.map tPs)
def Pr (n : Nat) (p : Int × Int) : Prop := (0 ≤ p.1 ∧ p.1 < n) ∧ 0 ≤ p.2 ∧ p.2 < n
def Pw (n : Nat) (R : List (List (Int × Int))) : Prop := R.length = n ∧ ∀ r, r ∈ R → r.length = n ∧ ∀ p, p ∈ r → Pr n p
def S__law_orders (ds : List D) (Q : D → Prop) : Prop := ∃ n : Nat, ds = [.int n] ∧ n ≤ 4 ∧ ∀ ms : List (List Int), (∀ m, m ∈ ms → Mv n m) → rgI n ∈ ms → ms.length ≤ 5000 → Q (tL ms)
def S__law_joined (ds : List D) (Q : D → Prop) : Prop := ∃ (a b : List Int) (n : Nat), ds = [tI a, tI b] ∧ Mv n a ∧ (∀ x, x ∈ b → 0 ≤ x ∧ x < n) ∧ b.length ≤ 1000 ∧ ∀ c : List Int, c.length = b.length → (∀ x, x ∈ c → 0 ≤ x ∧ x < n) → Q (tI c)
def S__law_renamed_dots (ds : List D) (Q : D → Prop) : Prop := ∃ C m n, ds = [tL C, tI m] ∧ Dw n C ∧ Mv n m ∧ n ≤ 24 ∧ ∀ C', Dw n C' → Q (tL C')
def S__law_keeps_dots (ds : List D) (Q : D → Prop) : Prop := ∃ C m n, ds = [tL C, tI m] ∧ Dw n C ∧ Mv n m ∧ n ≤ 24 ∧ ∀ b, (m = rgI n → b = true) → Q (.bool b)
def S__law_dots_likenesses (ds : List D) (Q : D → Prop) : Prop := ∃ C n, ds = [tL C] ∧ Dw n C ∧ n ≤ 4 ∧ ∀ ms, (∀ m, m ∈ ms → Mv n m) → ms ≠ [] → ms.length ≤ 5000 → Q (tL ms)
def S__law_union_dots (ds : List D) (Q : D → Prop) : Prop := ∃ A B f s a b, ds = [tL A, tL B, tI f, tI s] ∧ Dw a A ∧ Dw b B ∧ Mv b f ∧ Mv a s ∧ a + b ≤ 24 ∧ ∀ C, Dw (a + b) C → Q (tL C)
def S__law_product_dots (ds : List D) (Q : D → Prop) : Prop := ∃ A B a b, ds = [tL A, tL B] ∧ Dw a A ∧ Dw b B ∧ 1 ≤ b ∧ a * b ≤ 24 ∧ ∀ C, Dw (a * b) C → Q (tL C)
def S__law_small_dots (ms ds : List D) (Q : D → List D → Prop) : Prop := ∃ most : Nat, ds = [.int most] ∧ 1 ≤ most ∧ most ≤ 24 ∧ Dc ms ∧ ∀ C n ms', Dw n C → 1 ≤ n → n ≤ most → Dc ms' → Q (tL C) ms'
def S__law_quiet_dots (ms ds : List D) (Q : D → List D → Prop) : Prop := ∃ least most : Nat, ds = [.int least, .int most] ∧ 1 ≤ most ∧ most ≤ 8 ∧ least ≤ most ∧ Dc ms ∧ ∀ C n ms', Dw n C → 1 ≤ n → n ≤ most → Dc ms' → Q (tL C) ms'
def S__law_rows_of_dots (ds : List D) (Q : D → Prop) : Prop := ∃ C n, ds = [tL C] ∧ Dw n C ∧ n ≤ 24 ∧ ∀ R, Pw n R → Q (tRP R)
def S__law_renamed_rows (ds : List D) (Q : D → Prop) : Prop := ∃ R m n, ds = [tRP R, tI m] ∧ Pw n R ∧ Mv n m ∧ n ≤ 24 ∧ ∀ R', Pw n R' → Q (tRP R')
def S__law_power (ds : List D) (Q : D → Prop) : Prop := ∃ (m : List Int) (n k : Nat), ds = [tI m, .int k] ∧ Mv n m ∧ n ≤ 24 ∧ k ≤ 1000 ∧ ∀ c, Mv n c → Q (tI c)
def S__law_fair_rows (ms ds : List D) (Q : D → List D → Prop) : Prop := ∃ least most : Nat, ds = [.int least, .int most] ∧ 1 ≤ most ∧ most ≤ 5 ∧ least ≤ most ∧ Dc ms ∧ ∀ R n ms', Pw n R → n ≤ most → Dc ms' → Q (tRP R) ms'
def S__law_any_rows (ms ds : List D) (Q : D → List D → Prop) : Prop := ∃ most : Nat, ds = [.int most] ∧ most ≤ 8 ∧ Dc ms ∧ ∀ R n ms', Pw n R → n ≤ most → Dc ms' → Q (tRP R) ms'
def optD : Option Int → D
  | none => .none
  | some i => .int i

end Dn
set_option Elab.async false
set_option linter.all false
set_option maxRecDepth 100000
set_option autoImplicit false
set_option maxHeartbeats 4000000
/-! sorted(l), l a list of tuples of ints, none of them empty, of any lengths -/
namespace SrL
open PySem PyProof.Rows Srt SrtO
def lx : List Int → List Int → Bool
  | [], [] => false
  | [], _ :: _ => true
  | _ :: _, [] => false
  | x :: a, y :: b => if x = y then lx a b else decide (x < y)
theorem lx_asym : ∀ {a b : List Int}, lx a b = true → lx b a = false
  | [], [], _ => rfl
  | [], _ :: _, _ => rfl
  | _ :: _, [], h => by simp [lx] at h
  | x :: a, y :: b, h => by
    unfold lx at h ⊢
    by_cases e : x = y
    · rw [if_pos e] at h; rw [if_pos e.symm]; exact lx_asym h
    · rw [if_neg e] at h; rw [if_neg (Ne.symm e)]
      have := of_decide_eq_true h
      exact decide_eq_false (by omega)
theorem lx_tr : ∀ {a b c : List Int}, lx b a = false → lx c b = false → lx c a = false
  | [], [], [], _, _ => rfl
  | [], [], _ :: _, _, h => by simp [lx] at h; rfl
  | [], _ :: _, [], _, h => by simp [lx] at h
  | [], _ :: _, _ :: _, _, _ => rfl
  | _ :: _, [], _, h, _ => by simp [lx] at h
  | _ :: _, _ :: _, [], _, h => by simp [lx] at h
  | x :: a, y :: b, z :: c, h1, h2 => by
    unfold lx at h1 h2 ⊢
    by_cases e1 : y = x
    · rw [if_pos e1] at h1
      by_cases e2 : z = y
      · rw [if_pos e2] at h2; rw [if_pos (e2.trans e1)]; exact lx_tr h1 h2
      · rw [if_neg e2] at h2; rw [if_neg (by rw [← e1]; exact e2)]; rw [← e1]; exact h2
    · rw [if_neg e1] at h1
      have k1 := of_decide_eq_false h1
      by_cases e2 : z = y
      · rw [e2, if_neg e1]; exact h1
      · rw [if_neg e2] at h2
        have k2 := of_decide_eq_false h2
        rw [if_neg (by omega)]
        exact decide_eq_false (by omega)
theorem lx_eq : ∀ {a b : List Int}, lx a b = false → lx b a = false → a = b
  | [], [], _, _ => rfl
  | [], _ :: _, h, _ => by simp [lx] at h
  | _ :: _, [], _, h => by simp [lx] at h
  | x :: a, y :: b, h1, h2 => by
    unfold lx at h1 h2
    by_cases e : x = y
    · rw [if_pos e] at h1; rw [if_pos e.symm] at h2
      rw [e, lx_eq h1 h2]
    · rw [if_neg e] at h1; rw [if_neg (Ne.symm e)] at h2
      have k1 := of_decide_eq_false h1
      have k2 := of_decide_eq_false h2
      omega
theorem swo_lx (k : Value → List Int) : Swo fun v u => lx (k v) (k u) := ⟨fun _ _ h => lx_asym h, fun _ _ _ h1 h2 => lx_tr h1 h2⟩
section
variable {prog : Program} {w : World} {A : Around} {E : Value → Shared → Prop} {s : Shared} {Q : Bool → Shared → Prop}
theorem lex_any {b fin : Bool} {xs ys : List Value} {ns ms : List Int} (i : Nat) (hx : IntsAre xs ns) (hy : IntsAre ys ms) (hf : fin = decide (ns.length < ms.length)) (h : Q (lx ns ms) s) : PySem.W.KatLex prog w A b fin Q (xs.zip ys) i s := by
  induction hx generalizing ys ms i with
  | nil =>
    cases hy with
    | nil => simp at hf; subst hf; exact PySem.W.kat_nil h
    | cons q u hy => simp at hf; subst hf; exact PySem.W.kat_nil h
  | @cons p t xs ns hx ih =>
    cases hy with
    | nil => simp at hf; subst hf; exact PySem.W.kat_nil h
    | @cons q u ys ms hy =>
      have hf' : fin = decide (ns.length < ms.length) := by simpa using hf
      show PySem.W.KatLex prog w A b fin Q ((Value.int p t, Value.int q u) :: xs.zip ys) i s
      refine PySem.W.kat_cons (wpAny_eqBool_int ?_)
      by_cases e : p = q
      · subst e
        rw [beq_self_eq_true]
        have d : lx (p :: ns) (p :: ms) = lx ns ms := by rw [lx, if_pos rfl]
        rw [d] at h
        refine PySem.W.kat_yes ?_
        first
          | exact ih (i + 1) hy hf' h
          | exact ih _ _ (i + 1) hy hf' h
      · rw [show (p == q) = false from beq_eq_false_iff_ne.mpr e]
        refine PySem.W.kat_no (TS.oneLt_ints _ ?_)
        have d : lx (p :: ns) (q :: ms) = decide (p < q) := by rw [lx, if_neg e]
        rw [d] at h
        exact h
theorem tup_cmp {vs : List Value} {k : Value → List Int} (hp : ∀ v ∈ vs, TS.TupInts s.heap v (k v)) : Cmp prog w A s (tuples' true) (fun p => p.1 ∈ vs) (lt2 fun v u => lx (k v) (k u)) := by
  intro p q hm hm'
  have h1 := hp _ hm
  have h2 := hp _ hm'
  show wpAny (model prog w) A (keyLt' (tuples' true) p.1 q.1) (fun r s' => s' = s ∧ r = lx (k p.1) (k q.1)) (fun _ _ => False) s
  generalize k p.1 = x at h1 ⊢
  generalize k q.1 = y at h2 ⊢
  obtain ⟨a, xs, e, ⟨o, ho, hc, n, hd⟩, i1⟩ := h1
  obtain ⟨a', xs', e', ⟨o', ho', hc', n', hd'⟩, i2⟩ := h2
  rw [e, e']
  refine PySem.W.kat_lt ho hd ho' hd' (lex_any 0 i1 i2 ?_ ⟨rfl, rfl⟩)
  rw [← i1.length, ← i2.length, Array.length_toList, Array.length_toList]
theorem firsts {h : Heap} {k : Value → List Int} : ∀ vs : List Value, (∀ v ∈ vs, TS.TupInts h v (k v)) → (∀ v ∈ vs, k v ≠ []) → ∃ fs, PySem.W.KatTups h vs fs ∧ fs.length = vs.length ∧ ∀ f, f ∈ fs → ∃ n t, f = Value.int n t
  | [], _, _ => ⟨[], PySem.W.KatTups.nil, rfl, fun f hf => by simp at hf⟩
  | v :: vs, x, hne => by
    obtain ⟨fs, kt, hl, hi⟩ := firsts vs (fun u hu => x u (List.mem_cons_of_mem _ hu)) fun u hu => hne u (List.mem_cons_of_mem _ hu)
    have hv := hne v (List.mem_cons_self ..)
    obtain ⟨a, xs, rfl, ⟨o, ho, hc, n, hdt⟩, i⟩ := x v (List.mem_cons_self ..)
    obtain ⟨y, ys, e⟩ : ∃ y ys, xs.toList = y :: ys := by
      cases q : xs.toList with
      | nil =>
        rw [q] at i
        have l := i.length
        rw [List.length_nil] at l
        exact absurd (List.length_eq_zero_iff.mp l.symm) hv
      | cons y ys => exact ⟨y, ys, rfl⟩
    obtain ⟨m, t, hy⟩ := i.all y (by rw [e]; exact List.mem_cons_self ..)
    refine ⟨y :: fs, PySem.W.KatTups.cons ho hc hdt ?_ kt, by simp [hl], ?_⟩
    · have z := congrArg (fun l : List Value => l[0]?) e
      simpa using z
    · intro f hf
      rcases List.mem_cons.mp hf with rfl | hf
      · exact ⟨m, t, hy⟩
      · exact hi f hf
theorem tups_sortableO {a : Addr} {vs : List Value} {k : Value → List Int} (h0 : 0 < vs.length) (hp : ∀ v ∈ vs, TS.TupInts s.heap v (k v)) (hne : ∀ v ∈ vs, k v ≠ []) (ha : ∀ o, s.heap.get? a = some o → o.cls ≠ .type "tuple") : SortableO prog w A s a vs fun v u => lx (k v) (k u) := by
  intro h' keep
  have hp' : ∀ v ∈ vs, TS.TupInts h' v (k v) := fun v hm => (hp v hm).keeps fun b o e c => keep b o (fun z => by subst z; exact ha o e c) e
  obtain ⟨fs, h1, h2, h3⟩ := firsts vs hp' hne
  refine ⟨tuples' true, fun Q E hq => ?_, tup_cmp hp'⟩
  refine PySem.W.kat_kind (T := .type "int") h1 (by omega) (fun f hm => ?_) (by rfl) ?_
  · obtain ⟨x, t, rfl⟩ := h3 f hm
    exact PySem.W.Looks.of_pure rfl
  · have e : (Value.type "int" != Value.type "tuple") = true := by first | decide +kernel | rfl | decide
    rw [e]
    exact hq
end
end SrL
namespace Dn
open PySem L2 Evl PySem.Spec PyProof.Rows SrL
section
variable {X : Cx}
def rSortL (K : PySem.W.Frag) : List V → Hp → VK → Prop := fun vs H Q => ∃ (a : Addr) (xs : List V), vs = [V.ref a] ∧ SqL K H a xs ∧ (∀ x ∈ xs, ∃ ns, TupI K H x ns ∧ ns ≠ []) ∧
  ∀ (ys : List V) (p : Addr), ys.Perm xs → ys.Pairwise (fun x y => ∀ n m, TupI K H x n → TupI K H y m → lx m n = false) → H p = none → Q (.ref p) (upd H p (.lst ys))
theorem cr_sortL : CallR X (.builtin "sorted") (rSortL X.K) := by
  intro pins s σ H vs us Q I r h
  obtain ⟨a, xs, rfl, hs, hx, q⟩ := h
  obtain ⟨its, rv, hl, hz⟩ := I.list hs
  rw [Vals.ref1 r]
  obtain ⟨e1, e2⟩ := bkV_refs rv fun x m => by
    obtain ⟨ns, ⟨t, e, _⟩, _⟩ := hx x m
    exact ⟨t, e⟩
  have tup : ∀ v, v ∈ its → TS.TupInts s.heap v (TS.intsOf s.heap v) ∧ TS.intsOf s.heap v ≠ [] := fun v hv => by
    obtain ⟨t, rfl⟩ := e2 v hv
    have hm : V.ref t ∈ xs := by
      rw [e1]
      exact List.mem_map.mpr ⟨_, hv, rfl⟩
    obtain ⟨ns, ⟨t', e, ht⟩, hn⟩ := hx _ hm
    cases e
    have ti := tupI_raw I ht
    rw [ti.ints]
    exact ⟨ti, hn⟩
  refine SrtO.sorted_ord (swo_lx (TS.intsOf s.heap)) hl.isList (by rw [← rv.length]; exact hz) (fun h2 h₁ a' ha kk => ?_) fun out hs2 hb => ?_
  · refine tups_sortableO (s := { s with heap := h₁ }) (by omega) (fun v hm => (tup v hm).1.keeps fun b o e _ => (kk b o e).2) (fun v hm => (tup v hm).2) fun o e => ?_
    have e' : some o = some (seqObj "list" its.toArray 0) := e.symm.trans ha
    cases e'
    intro c
    exact absurd (Value.type.inj c) (by decide)
  · obtain ⟨ep, he'⟩ := PyProof.Rows.sortedAll_at s.heap its out.toArray
    have h3 : ∀ u ∈ out, ∃ a, u = Value.ref a := fun u hu => e2 u (hb.perm.mem_iff.mp hu)
    have hp : (out.map bkV).Perm xs := by
      rw [e1]
      exact hb.perm.map bkV
    have hlen : (out.map bkV).length ≤ sizeLine := by
      rw [hp.length_eq]
      exact hz
    refine ⟨.ref _, upd H (s.heap.objs.size + 1) (.lst (out.map bkV)), I.laid (t' := s.toks) (fun _ _ => PyProof.Rows.sortedAll_old) (Nat.le_succ _) ⟨hlen, out, ep, bkV_vals h3, he'⟩, rfl, q _ _ hp ?_ (I.hok.fresh (Nat.le_succ _))⟩
    rw [List.pairwise_map]
    refine List.Pairwise.imp (fun {u v} huv n m hn hm => ?_) hs2
    obtain ⟨t, et, ht⟩ := hn
    obtain ⟨t', et', ht'⟩ := hm
    have eu := bkV_ref et
    have ev := bkV_ref et'
    have i1 : TS.intsOf s.heap u = n := by
      rw [eu]
      exact (tupI_raw I ht).ints
    have i2 : TS.intsOf s.heap v = m := by
      rw [ev]
      exact (tupI_raw I ht').ints
    rw [← i1, ← i2]
    exact huv
theorem RpAll.perm {K : PySem.W.Frag} {G : Hp} {ys xs : List V} (h : ys.Perm xs) : ∀ {ds : List D}, RpAll K G xs ds → ∃ ds', ds'.Perm ds ∧ RpAll K G ys ds' := by
  induction h with
  | nil => intro ds r; exact ⟨ds, .refl _, r⟩
  | cons x h ih =>
    intro ds r
    cases r with
    | cons r rr =>
      obtain ⟨ds', p, r2⟩ := ih rr
      exact ⟨_, p.cons _, .cons r r2⟩
  | swap x y l =>
    intro ds r
    cases r with
    | cons r rr =>
      cases rr with
      | cons r2 rr => exact ⟨_, .swap _ _ _, .cons r2 (.cons r rr)⟩
  | trans h1 h2 ih1 ih2 =>
    intro ds r
    obtain ⟨ds2, p2, r2⟩ := ih2 r
    obtain ⟨ds1, p1, r1⟩ := ih1 r2
    exact ⟨ds1, p1.trans p2, r1⟩
theorem perm_map {α : Type} {f : α → D} : ∀ {ys zs : List D}, ys.Perm zs → ∀ {l : List α}, zs = l.map f → ∃ l' : List α, ys = l'.map f ∧ l'.Perm l := by
  intro ys zs h
  induction h with
  | nil =>
    intro l e
    cases l with
    | nil => exact ⟨[], rfl, .nil⟩
    | cons _ _ => cases e
  | cons x h ih =>
    intro l e
    cases l with
    | nil => cases e
    | cons n ns =>
      simp at e
      obtain ⟨ms, e1, e2⟩ := ih e.2
      exact ⟨n :: ms, by simp [e1, e.1], e2.cons n⟩
  | swap x y l =>
    intro ns e
    match ns, e with
    | a :: b :: ns, e =>
      simp at e
      exact ⟨b :: a :: ns, by simp [e.1, e.2.1, e.2.2], .swap a b ns⟩
  | trans h1 h2 ih1 ih2 =>
    intro ns e
    obtain ⟨ms, e1, e2⟩ := ih2 e
    obtain ⟨ms2, e3, e4⟩ := ih1 e1
    exact ⟨ms2, e3, e4.trans e2⟩
def tI0 (ns : List Int) : D := .tuple (ns.map PyData.int)
theorem tupI_rp {K : PySem.W.Frag} {O : Addr → Prop} {H : Hp} {v : V} {ns : List Int} (r : Rp K (hide O H) v (tI0 ns)) : TupI K H v ns := by
  unfold tI0 at r
  cases r with
  | tup h rr =>
    obtain rfl := rr.of_ints
    exact ⟨_, rfl, sqt_of h⟩
theorem pw_rp {K : PySem.W.Frag} {O : Addr → Prop} {H : Hp} : ∀ {ys : List V} {L : List (List Int)}, RpAll K (hide O H) ys (L.map tI0) → ys.Pairwise (fun x y => ∀ n m, TupI K H x n → TupI K H y m → lx m n = false) → L.Pairwise fun a b => lx b a = false
  | _, [], _, _ => .nil
  | y :: ys, l :: L, .cons r rr, .cons h p => by
    refine .cons (fun b hb => ?_) (pw_rp rr p)
    obtain ⟨i, hi, e⟩ := List.mem_iff_getElem.mp hb
    have e2 : (L.map tI0)[i]? = some (tI0 b) := by rw [List.getElem?_map, List.getElem?_eq_getElem hi, e]; rfl
    obtain ⟨v, h1, h2⟩ := rr.get e2
    exact h v (List.mem_of_getElem? h1) l b (tupI_rp r) (tupI_rp h2)
variable {a : Expr} {fa : DE} {pos p : Pos}
/-- sorted(l), tuples of ints -/
def lSortT (fa : DE) : DL := fun ρ Q => fa ρ fun z ρ1 => ∃ L : List (List Int), z = .list (L.map tI0) ∧ (∀ l, l ∈ L → l ≠ []) ∧ ∀ L' : List (List Int), L'.Perm L → (L'.Pairwise fun a b => lx b a = false) → Q (L'.map tI0) ρ1
theorem jl_sortT (hm : X.mg "sorted" = none) (ha : JE X a fa) (hg : Gl X "sorted" := by rfl) (he : starEach [a] X.env = (false, eval a X.env) :: starEach [] X.env := by rfl) : JL X (.Call (.Name "sorted" p) [a] [] pos) (lSortT fa) := by
  obtain ⟨ta, pa, ka⟩ := ha.ex
  refine ⟨_, pe_callB cr_sortL hg hm (by decide +kernel) (pa_cons pa pa_nil he) (by decide) (by decide) he (by rfl), fun T ρ σ H QD Q r h q => ka T ρ σ H _ _ r h fun d ρ1 v H1 r1 p1 v1 h => ?_⟩
  obtain ⟨L, rfl, hne, h⟩ := h
  cases v1 with
  | lst hp rr =>
    refine ⟨_, _, rfl, .inl (.inl (at_of hp)), fun x hx => ?_, fun ys l h1 h2 hl => ?_⟩
    · obtain ⟨i, hi, e⟩ := List.mem_iff_getElem.mp hx
      obtain ⟨d, e2, r2⟩ := rr.get' (by rw [List.getElem?_eq_getElem hi, e])
      rw [List.getElem?_map] at e2
      obtain ⟨b, e3, rfl⟩ := Option.map_eq_some_iff.mp e2
      exact ⟨b, tupI_rp r2, hne b (List.mem_of_getElem? e3)⟩
    · obtain ⟨ds', pm, r2⟩ := RpAll.perm h1 rr
      obtain ⟨L', rfl, pm2⟩ := perm_map pm rfl
      exact q _ _ _ _ _ (none_back p1 hl) upd_same (r1.laid hl) (r2.mono (hd_laid hl)) (p1.trans (.grow (Ex.new hl))) (h L' pm2 (pw_rp r2 h2))
end
end Dn
set_option Elab.async false
set_option linter.all false
set_option maxRecDepth 100000
set_option autoImplicit false
set_option maxHeartbeats 4000000
/-! {k: v for x in xs}; min(l), l.index(x); l * n -/
namespace Dn
open PySem L2 Evl PySem.Spec PyProof.Rows
section
variable {X : Cx} {a b c e : Expr} {fa fb fc : DE} {pos p : Pos} {es : List Expr} {x y : Str}
def wpDc (g : DG) (tt : DT) (tk te : DE) (vs : List Nat) (Q : List (Key × D) → Env → Prop) : List D → List (Key × D) → Env → Prop
  | [], acc, ρ => Q acc ρ
  | d :: ds, acc, ρ => acc.length < 16777216 ∧ g d (wipeD ρ vs) fun ρ1 => tt ρ1 fun b ρ2 => if b = true then tk ρ2 fun yk ρk => te ρk fun y ρ3 => ∃ k, keyD yk = some k ∧ wpDc g tt tk te vs Q ds (putD acc k y) (wipeD ρ3 vs) else wpDc g tt tk te vs Q ds acc (wipeD ρ2 vs)
abbrev DDc := Env → (List (Key × D) → Env → Prop) → Prop
def lDc (fi : DL) (g : DG) (tt : DT) (tk te : DE) (vs : List Nat) : DDc := fun ρ Q => fi ρ fun ds ρ1 => wpDc g tt tk te vs Q ds [] (wipeD ρ1 vs)
def dOfK (f : DDc) : DE := fun ρ Q => f ρ fun kvs => Q (.dict (dkD kvs))
def xOwK (f : DDc) : DX := fun ρ Q => f ρ fun kvs => Q (.ow (.dct kvs))
theorem dc_read {tg iter : Expr} {vs : List Nat} {fi : DL} {g : DG} {tt : DT} {tk te : DE} (hi : JI X tg iter fi) : ∃ wi, PI X tg iter wi ∧ ∀ (T : Addr → Prop) (ρ : Env) (σ : L2.St) (H : Hp) (QD : List (Key × D) → Env → Prop) (Q : VK), RS X.K T ρ σ H → lDc fi g tt tk te vs ρ QD →
    (∀ ds ρ' p vs H', H p = none → H' p = some (.dK vs) → RS X.K (plus T p) ρ' σ H' → KvRp X.K (hide (Hd (plus T p) ρ' σ) H') ds vs → Po ρ σ H ρ' σ H' → QD ds ρ' → Q (.ref p) H') → tDc wi (tgOf X.K vs g) (ttOf X.K tt) (teOf X.K tk) (teOf X.K te) vs σ H Q := by
  obtain ⟨wi, pi, ki⟩ := hi.ex
  refine ⟨wi, pi, fun T ρ σ H QD Q r h q => ki T ρ σ H _ _ r h fun ds ρ1 J H1 r1 p1 it h => ?_⟩
  intro L hL
  -- kept: what was known at the start stands apart from the new list
  refine ⟨fun i m H' => i ≤ ds.length ∧ m = ds.length - i ∧ ∃ ρ' acc us, ρ' = wipeD ρ' vs ∧ RS X.K (plus T L) ρ' (wipe σ vs) H' ∧ Po ρ1 σ H1 ρ' (wipe σ vs) H' ∧ H' L = some (.dK us) ∧ KvRp X.K (hide (Hd (plus T L) ρ' (wipe σ vs)) H') acc us ∧ wpDc g tt tk te vs QD (ds.drop i) acc ρ',
    ⟨ds.length, Nat.zero_le _, rfl, wipeD ρ1 vs, [], [], (wipeD_idem vs).symm, (r1.laid hL).wiped vs, (Po.grow (Ex.new hL)).trans (.wiped vs), upd_same, (Paired.nil : KvRp X.K _ [] []), h⟩, ?_⟩
  rintro i m H' ⟨hi, rfl, ρ', acc, us, ew, r', p', hl, ra, h⟩
  have eG : Ex (hide (Hd T ρ1 σ) H1) H' := (p'.fz (T := T)).trans hide_ex
  by_cases hlt : i < ds.length
  · rw [List.drop_eq_getElem_cons hlt] at h
    obtain ⟨hz, h⟩ := h
    obtain ⟨go, st⟩ := it.step i ds[i] H' (List.getElem?_eq_getElem hlt) eG
    refine .inr ⟨go, fun H2 => ∃ ρ2 acc us, ρ2 = wipeD ρ2 vs ∧ RS X.K (plus T L) ρ2 (wipe σ vs) H2 ∧ Po ρ1 σ H1 ρ2 (wipe σ vs) H2 ∧ H2 L = some (.dK us) ∧ KvRp X.K (hide (Hd (plus T L) ρ2 (wipe σ vs)) H2) acc us ∧ wpDc g tt tk te vs QD (ds.drop (i + 1)) acc ρ2,
      fun H2 w => ⟨ds.length - (i + 1), by omega, by omega, rfl, w⟩, fun v H2 hy => ?_⟩
    obtain ⟨ex, rv⟩ := st v H2 hy
    rw [← ew] at h
    have r2 := r'.grow ex
    have pa2 := p'.trans (Po.grow (ρ := ρ') (σ := wipe σ vs) ex)
    have ra2 := ra.mono (hide_grow (O := Hd (plus T L) ρ' (wipe σ vs)) ex)
    have nL : H1 L = none := hL
    have eO : Ex (hide (Hd T ρ1 σ) H1) (hide (Hd (plus T L) ρ' (wipe σ vs)) H') := fun a o w => by
      obtain ⟨n, w⟩ := hide_some.1 w
      obtain ⟨n2, w2⟩ := hide_some.1 ((p'.fz (T := T)) a o (hide_some.2 ⟨n, w⟩))
      refine hide_some.2 ⟨?_, w2⟩
      rintro ((t | t) | t)
      · subst t; rw [nL] at w; cases w
      · exact n2 (.inl t)
      · exact n2 (.inr t)
    refine ⟨plus T L, ρ', ds[i], _, r2, rv _ (fun a => r'.hdDom) eO, h, fun ρ3 σ3 r3 p3 w3 h => ⟨by rw [w3]; exact wipe_idem σ vs, plus T L, ρ3, _, r3, h, fun b ρ4 H4 r4 p4 h => ?_⟩⟩
    -- the new list is never the block's own
    have keepL : ∀ {ρa : Env} {σa : L2.St} {Ha Hb : Hp} {ρb : Env} {σb : L2.St} {o : HO}, RS X.K (plus T L) ρa σa Ha → Po ρa σa Ha ρb σb Hb → Ha L = some o → Hb L = some o := fun ra pab hh => pab.keep L _ (ra.dis L (.inl rfl)) hh
    have l4 : H4 L = some (.dK us) := keepL r2 (p3.trans p4) (ex _ _ hl)
    have ra4 := ra2.mono (((p3.trans p4)).fz (T := plus T L))
    have back : ∀ {ρ5 : Env} {H5 : Hp}, RS X.K (plus T L) ρ5 σ3 H5 → RS X.K (plus T L) (wipeD ρ5 vs) (wipe σ vs) H5 := fun {ρ5 H5} r5 => by
      have z := r5.wiped vs
      rw [w3, wipe_idem] at z
      exact z
    have pback : ∀ {ρ5 : Env} {H5 : Hp}, Po ρ1 σ H1 ρ5 σ3 H5 → Po ρ1 σ H1 (wipeD ρ5 vs) (wipe σ vs) H5 := fun {ρ5 H5} p5 => by
      have z := p5.trans (Po.wiped (ρ := ρ5) (σ := σ3) (H := H5) vs)
      rw [w3, wipe_idem] at z
      exact z
    cases b with
    | false =>
      refine ⟨wipeD ρ4 vs, acc, us, (wipeD_idem vs).symm, back r4, pback (pa2.trans (p3.trans p4)), l4, ?_, h⟩
      have z := ra4.mono ((Po.wiped (ρ := ρ4) (σ := σ3) (H := H4) vs).fz (T := plus T L))
      rw [w3, wipe_idem] at z
      exact z
    | true =>
      rw [if_pos rfl] at h
      dsimp only
      rw [if_pos rfl]
      refine ⟨plus T L, ρ4, _, r4, h, fun yk ρk wk' Hk rk pk vk h => ?_⟩
      refine ⟨plus T L, ρk, _, rk, h, fun y ρ5 w H5 r5 p5' v5 h => ?_⟩
      obtain ⟨ky, hky, h⟩ := h
      obtain rfl := keyD_rp vk hky
      have p5 := pk.trans p5'
      have l5 : H5 L = some (.dK us) := keepL r4 p5 l4
      have ra5 := KvRp.put (ra4.mono (p5.fz (T := plus T L))) ky v5
      have aL : ∀ (o : HO), Ex (hide (Hd (plus T L) ρ5 σ3) H5) (hide (Hd (plus T L) ρ5 σ3) (upd H5 L o)) := fun o a u w => by
        obtain ⟨n, w⟩ := hide_some.1 w
        exact hide_some.2 ⟨n, by rw [upd_ne (fun z => n (.inl (.inl z)))]; exact w⟩
      have r6 : RS X.K (plus T L) ρ5 σ3 (upd H5 L (.dK (putK us ky w))) := by
        refine ⟨r5.len, fun j d z => ?_, fun j m z => ?_, r5.inj, r5.dis, fun a t => ?_, r5.tag⟩
        · obtain ⟨u, h1, h2⟩ := r5.im j d z; exact ⟨u, h1, h2.mono (aL _)⟩
        · obtain ⟨a, o, h1, h2, h3⟩ := r5.ow j m z
          have ne : a ≠ L := fun e => by subst e; exact r5.dis a (.inl rfl) ⟨j, m, z, h1⟩
          exact ⟨a, o, h1, by rw [upd_ne ne]; exact h2, h3.mono (aL _)⟩
        · by_cases e : a = L
          · subst e; rw [upd_same]; simp
          · rw [upd_ne e]; exact r5.dom a t
      have p6 : Po ρ1 σ H1 ρ5 σ3 (upd H5 L (.dK (putK us ky w))) := by
        have z := (pa2.trans (p3.trans p4)).trans p5
        refine ⟨fun a o n hh => ?_, z.own, fun a hh => ?_⟩
        · rw [upd_ne (fun e => by subst e; rw [nL] at hh; cases hh)]; exact z.keep a o n hh
        · by_cases e : a = L
          · subst e; rw [upd_same]; simp
          · rw [upd_ne e]; exact z.dom a hh
      refine ⟨us, ky, rfl, l5, by rw [← ra.len]; exact hz, wipeD ρ5 vs, putD acc ky y, putK us ky w, (wipeD_idem vs).symm, back r6, pback p6, upd_same, ?_, h⟩
      have z := (ra5.mono (aL (.dK (putK us ky w)))).mono ((Po.wiped (ρ := ρ5) (σ := σ3) (H := upd H5 L (.dK (putK us ky w))) vs).fz (T := plus T L))
      rw [w3, wipe_idem] at z
      exact z
  · have e : i = ds.length := by omega
    subst e
    rw [List.drop_length] at h
    refine .inl ⟨it.stop H' eG, ?_⟩
    rw [ew] at r' p' ra h
    refine q acc (wipeD ρ' vs) L us H' (none_back p1 hL) hl r'.unwipe (ra.mono ?_) ?_ h
    · exact hide_sub fun a w => w.elim .inl fun w => .inr (own_unwipe w)
    · exact p1.trans ⟨p'.keep, fun a w => p'.own a (own_unwipe w), p'.dom⟩
theorem je_dc {kx vx tg iter : Expr} {ifs : List Expr} {scope : Scope} {own : List (Str × Nat)} {fi : DL} {g : DG} {tt : DT} {tk te : DE} (hc : X.calm = true) (hN : X.N.Nodup) (hi : JI X tg iter fi) (ok : BlkOk X.N X.env.scope scope own)
    (hg : ∀ (s : Shared) (H : Hp) (C : Addr) (cl : List (Str × Addr)) (fp : List Addr), JG (X.blk s H scope (compEnvC scope cl C X.env) fp) tg (own.map (·.2)) g) (ht : ∀ (s : Shared) (H : Hp) (C : Addr) (cl : List (Str × Addr)) (fp : List Addr), JTs (X.blk s H scope (compEnvC scope cl C X.env) fp) ifs tt)
    (hk : ∀ (s : Shared) (H : Hp) (C : Addr) (cl : List (Str × Addr)) (fp : List Addr), JE (X.blk s H scope (compEnvC scope cl C X.env) fp) kx tk)
    (he : ∀ (s : Shared) (H : Hp) (C : Addr) (cl : List (Str × Addr)) (fp : List Addr), JE (X.blk s H scope (compEnvC scope cl C X.env) fp) vx te) (hs : ∀ x, foldedSetIterable iter X.env x = pure x := by intro _; rfl) :
    JE X (.DictComp kx vx [⟨tg, iter, ifs, 0⟩] scope pos) (dOfK (lDc fi g tt tk te (own.map (·.2)))) := by
  obtain ⟨wi, pi, k⟩ := dc_read (vs := own.map (·.2)) (g := g) (tt := tt) (tk := tk) (te := te) hi
  refine ⟨_, pe_dc (wi := wi) (g := tgOf X.K (own.map (·.2)) g) (tt := ttOf X.K tt) (tk := teOf X.K tk) (tv := teOf X.K te) hc hN pi ok (fun s H C cl fp => (hg s H C cl fp).pg) (fun s H C cl fp => (ht s H C cl fp).pts) (fun s H C cl fp => (hk s H C cl fp).pe) (fun s H C cl fp => (he s H C cl fp).pe) hs, fun T ρ σ H QD Q r h q => ?_⟩
  refine k T ρ σ H _ _ r h fun kvs ρ' l kws H' n s r' v' p' h' => ?_
  refine q _ _ _ _ r'.unplus p' (.dct (hide_some.2 ⟨?_, s⟩) (KvRp.rp (v'.mono hd_unplus)) rfl) h'
  rintro (w | w)
  · exact r.dom l w n
  · exact r'.dis l (.inl rfl) w
/-! ### min(l), ints; l * n -/
def dMinL : List D → (D → Prop) → Prop := fun ds Q => ∃ ns : List Int, ds = [.list (ns.map PyData.int)] ∧ ns ≠ [] ∧ ∀ m, m ∈ ns → (∀ z, z ∈ ns → m ≤ z) → Q (.int m)
theorem calld_minL (hc : X.calm = true) : CallD X (.builtin "min") dMinL := by
  refine ⟨_, cr_min hc, fun O H vs ds QD Q hO r h k => ?_⟩
  obtain ⟨ns, rfl, hne, h⟩ := h
  obtain ⟨v, rfl, w1⟩ := rp1 r
  cases w1 with
  | lst hp rr =>
    obtain rfl := rr.of_ints
    exact ⟨_, ns, rfl, .inl (.inl (at_of hp)), List.length_pos_iff.mpr hne, fun m h1 h2 => k _ _ H (.refl H) (.int _) (h m h1 h2)⟩
/-- l.index(x): ints -/
def dIndex (fa fb : DE) : DE := fun ρ Q => fa ρ fun z ρ1 => (∃ ds, z = .list ds) ∧ fb ρ1 fun y ρ2 => ∃ (ns : List Int) (n : Int) (j : Nat), z = .list (ns.map PyData.int) ∧ y = .int n ∧ ns[j]? = some n ∧ (∀ m : Nat, m < j → ns[m]? ≠ some n) ∧ Q (.int (j : Nat)) ρ2
theorem je_index {apos cpos : Pos} (ha : JE X a fa) (hb : JE X b fb)
    (hbase : attributeBase a "index" X.env (eval a X.env) = eval a X.env := by rfl)
    (hfew : ((backTo cpos (starEach [b] X.env)).all (fun x => !x.1) && (backToKw cpos (keywordEach [] X.env)).all (fun x => x.1.isSome)
      && decide (([b] : List Expr).length + ([] : List Keyword).length + (if ([] : List Keyword).isEmpty then 0 else 1) < 30)) = true := by rfl)
    (hline : (apos.endLine == cpos.line) = true := by rfl) (hs : starEach [b] X.env = (false, eval b X.env) :: starEach [] X.env := by rfl) (hplain : (backTo cpos (starEach [] X.env)).any (·.1) = false := by rfl) :
    JE X (.Call (.Attribute a "index" apos) [b] [] cpos) (dIndex fa fb) := by
  obtain ⟨ta, pa, ka⟩ := ha.ex
  obtain ⟨tb, pb, kb⟩ := hb.ex
  refine ⟨_, pe_bm PySem.F.plainAttrs_list PySem.F.slot_list_index (by kernel_rfl) mt_index pa (pa_cons pb pa_nil hs) hbase hfew hline hs hplain, fun T ρ σ H QD Q r h q => ka T ρ σ H _ _ r h fun z ρ1 v H1 r1 p1 v1 h => ?_⟩
  obtain ⟨⟨ds0, e0⟩, h⟩ := h
  subst e0
  cases v1 with
  | lst hp rr =>
    refine ⟨.inl ⟨rfl, _, .inl (.inl (at_of hp))⟩, kb T ρ1 σ H1 _ _ r1 h fun y ρ2 w H2 r2 p2 v2 h => ?_⟩
    obtain ⟨ns, n, j, e, rfl, h1, h2, h9⟩ := h
    cases e
    cases v2
    obtain rfl := rr.of_ints
    have hp2 := (p2.fz (T := T)) _ _ hp
    refine ⟨_, _, _, j, .int n, rfl, rfl, .inl (.inl (at_of hp2)), rfl, ?_, by rw [List.getElem?_map, h1]; rfl, by simp [eqV], fun m z' hm hz => ?_, q _ _ _ _ r2 (p1.trans p2) (.int _) h9⟩
    · rw [List.all_map]; exact List.all_eq_true.mpr fun _ _ => rfl
    · rw [List.getElem?_map] at hz
      obtain ⟨k, hk, rfl⟩ := Option.map_eq_some_iff.mp hz
      have : k ≠ n := fun z => h2 m hm (by rw [hk, z])
      simp [eqV, this]
/-- l * n, a new list -/
def lRep (fa fb : DE) : DL := fun ρ Q => fa ρ fun z ρ1 => fb ρ1 fun y ρ2 => ∃ (ds : List D) (n : Int), z = .list ds ∧ y = .int n ∧ 0 ≤ n ∧ n ≤ 1000 ∧ ds.length ≤ 1000 ∧ Q (List.replicate n.toNat ds).flatten ρ2
theorem jl_rep (ha : JE X a fa) (hb : JE X b fb) : JL X (.BinOp a .Mult b pos) (lRep fa fb) := by
  obtain ⟨ta, pa, ka⟩ := ha.ex
  obtain ⟨tb, pb, kb⟩ := hb.ex
  refine ⟨_, pe_op op_rep pa pb, fun T ρ σ H QD Q r h q => ka T ρ σ H _ _ r h fun z ρ1 v H1 r1 p1 v1 h => kb T ρ1 σ H1 _ _ r1 h fun y ρ2 w H2 r2 p2 v2 h => ?_⟩
  obtain ⟨ds, n, rfl, rfl, h1, h2, h3, h⟩ := h
  cases v2
  have v1' := v1.mono p2.fz
  cases v1' with
  | lst hp rr =>
    refine ⟨_, _, _, rfl, rfl, at_of hp, by omega, by omega, ?_, fun l hl => q _ _ _ _ _ (none_back (p1.trans p2) hl) upd_same (r2.laid hl) ((rr.rep _).mono (hd_laid hl)) ((p1.trans p2).trans (.grow (Ex.new hl))) h⟩
    rw [rr.length]
    have : ds.length * n.toNat ≤ 1000 * 1000 := Nat.mul_le_mul h3 (by omega)
    rw [sizeLine_eq]
    omega
/-- f(..), f a module's name for a built-in function -/
theorem je_callBf {id : String} {op : List D → (D → Prop) → Prop} {g : DA} (hc : CallD X (.builtin id) op) (hm : X.mg x = some (.builtin id)) (ha : JA X (e :: es) g) (hg : Gl X x := by rfl) (hdb : (x == ("__debug__" : Str)) = false := by decide)
    (he : starEach (e :: es) X.env = (false, eval e X.env) :: starEach es X.env := by rfl) (hpl : (backTo pos (starEach es X.env)).any (·.1) = false := by rfl) : JE X (.Call (.Name x p) (e :: es) [] pos) (dCall op g) := by
  obtain ⟨r, h1, h2⟩ := hc.ex
  obtain ⟨t, pa, ka⟩ := ha.ex
  refine ⟨_, pe_callBfun h1 hg hm pa hdb he hpl, fun T ρ σ H QD Q r h q => ka T ρ σ H _ _ r h fun ds ρ1 vs H1 r1 p1 v1 h => ?_⟩
  exact h2 (Hd T ρ1 σ) H1 vs ds _ _ (fun a => r1.hdDom) v1 h fun z v H' e v2 h => q _ _ _ _ (r1.grow e) (p1.trans (.grow e)) v2 h
def dLcm : List D → (D → Prop) → Prop
  | [.int i, .int j] => fun Q => i.natAbs < 2 ^ 64 ∧ j.natAbs < 2 ^ 64 ∧ Q (.int ((Nat.lcm i.natAbs j.natAbs : Nat) : Int))
  | _ => fun _ => False
theorem calld_lcm : CallD X (.builtin "math.lcm") dLcm := by
  refine ⟨_, cr_lcm, fun O H vs ds QD Q hO r h k => ?_⟩
  unfold dLcm at h
  split at h
  · obtain ⟨v, u, rfl, r1, r2⟩ := rp2 r
    cases r1; cases r2
    exact ⟨_, _, rfl, h.1, h.2.1, k _ _ H (.refl H) (.int _) h.2.2⟩
  · exact False.elim h
end
end Dn
set_option Elab.async false
set_option linter.all false
set_option maxRecDepth 100000
set_option autoImplicit false
set_option maxHeartbeats 4000000
/-! Comprehensions of any number of clauses: one clause's loop over any action of a turn, to be nested. -/
namespace Cq
open PySem L2 PySem.Spec PyProof.Rows
abbrev CpAct := Value → Env → (Unit → Sem Fin) → Sem Fin
/-- a turn at depth k, what is done with a found item told as act -/
def TurnEq (C : Expr) (k : Nat) (p : Pos) (tg : Expr) (ifs : List Expr) (act : CpAct) : Prop :=
  ∀ (src lst : Value) (ev : Env), compTurn C k src lst ev = (do
    standAt p
    match ← pyNext src with
    | none => pure (.done .next)
    | some got =>
      letOwnedTupleGo tg src got
      assign tg ev got
      let mut fits := true
      for q in ifs do
        if fits then fits ← isTrue q ev (eval q ev)
      if fits then
        act lst ev fun _ => again (.compLoop C k src lst ev)
      else again (.compLoop C k src lst ev))
def aApp (elt : Expr) : CpAct := fun lst ev kk => (do let _ ← call (.builtin "list.append") [lst, ← eval elt ev]) >>= kk
def aFor (C : Expr) (k : Nat) (i : Expr) : CpAct := fun lst ev kk => do
  let raw ← eval i ev
  standAt i.pos
  let src ← foldedSetIterable i ev raw
  let _ ← runOwn (.compStart C k (← holding [src] (pyIter src)) lst ev) ev
  kk ()
theorem turn3_0 {elt t0 i0 t1 i1 t2 i2 : Expr} {f0 f1 f2 : List Expr} {sc : Scope} {pos : Pos} : TurnEq (.ListComp elt [⟨t0, i0, f0, 0⟩, ⟨t1, i1, f1, 0⟩, ⟨t2, i2, f2, 0⟩] sc pos) 0 i0.pos t0 f0 (aFor (.ListComp elt [⟨t0, i0, f0, 0⟩, ⟨t1, i1, f1, 0⟩, ⟨t2, i2, f2, 0⟩] sc pos) 1 i1) := fun _ _ _ => by rfl
theorem turn3_1 {elt t0 i0 t1 i1 t2 i2 : Expr} {f0 f1 f2 : List Expr} {sc : Scope} {pos : Pos} : TurnEq (.ListComp elt [⟨t0, i0, f0, 0⟩, ⟨t1, i1, f1, 0⟩, ⟨t2, i2, f2, 0⟩] sc pos) 1 i1.pos t1 f1 (aFor (.ListComp elt [⟨t0, i0, f0, 0⟩, ⟨t1, i1, f1, 0⟩, ⟨t2, i2, f2, 0⟩] sc pos) 2 i2) := fun _ _ _ => by rfl
theorem turn3_2 {elt t0 i0 t1 i1 t2 i2 : Expr} {f0 f1 f2 : List Expr} {sc : Scope} {pos : Pos} : TurnEq (.ListComp elt [⟨t0, i0, f0, 0⟩, ⟨t1, i1, f1, 0⟩, ⟨t2, i2, f2, 0⟩] sc pos) 2 i2.pos t2 f2 (aApp elt) := fun _ _ _ => by rfl
/-- what is done with an item, by its reading -/
structure Act (Y : Cx) (act : CpAct) (lst : Value) (vin : List Nat) (bd : L2.St → Hp → (Hp → Prop) → Prop) : Prop where
  run : ∀ (pins : List (Addr × Obj)) (s : Shared) (σ : L2.St) (H : Hp) (Nx : Hp → Prop), Inv Y pins σ H s → bd σ H Nx → ∀ (kk : Unit → Sem Fin) (Q : Fin → Shared → Prop) (E : Value → Shared → Prop),
    (∀ s' H', Inv Y pins (wipe σ vin) H' s' → Nx H' → wpAny (model Y.prog Y.w) Y.A (kk ()) Q E s') → wpAny (model Y.prog Y.w) Y.A (act lst Y.env kk) Q E s
def bApp (D : Addr) (te : TE) : L2.St → Hp → (Hp → Prop) → Prop := fun σ H Nx => te σ H fun y H' => ∃ acc, H' D = some (.lst acc) ∧ acc.length < sizeLine ∧ Nx (upd H' D (.lst (acc ++ [y])))
theorem mF {α : Type} {t : Sem α} {Q Q' : α → Shared → Prop} {M : Model} {A : Around} {E E' : Value → Shared → Prop} {s : Shared} (hx : E = fun _ _ => False) (h : wpAny M A t Q E s) (hq : ∀ a s, Q a s → Q' a s) : wpAny M A t Q' E' s := by
  subst hx
  exact thnF h hq
theorem act_app {Y : Cx} {elt : Expr} {te : TE} {D : Addr} (hx : Y.xe = fun _ _ => False) (he : PE Y elt te) : Act Y (aApp elt) (.ref D) [] (bApp D te) := by
  refine ⟨fun pins s σ H Nx I h kk Q E hk => ?_⟩
  unfold aApp
  refine wpAny_bind (wpAny_bind (mF hx (he.run pins s σ H _ I h) fun u s1 ⟨y, H1, I1, ry, acc, hD, hz, nx⟩ => wpAny_bind ?_))
  exact app_ok I1 hD hz ry fun s2 I2 => wpAny_pure (hk s2 _ I2 nx)
/-- a clause's walk: W by the turn and a measure -/
def bFor (wi : TI) (g : TG) (tt : TT) (bd : L2.St → Hp → (Hp → Prop) → Prop) (vs : List Nat) : L2.St → Hp → (Hp → Prop) → Prop := fun σ H Nx => wi σ H fun J H1 => ∃ W : Nat → Nat → Hp → Prop, (∃ m, W 0 m H1) ∧ ∀ i m H, W i m H →
  (J.stop i H ∧ Nx H) ∨ (J.go i H ∧ ∃ Ny : Hp → Prop, (∀ H', Ny H' → ∃ m', m' < m ∧ W (i + 1) m' H') ∧ ∀ x H', J.yld i H x H' → g x (wipe σ vs) H' fun σ2 H2 => wipe σ2 vs = wipe σ vs ∧ tt σ2 H2 fun b H3 =>
    if b = true then bd σ2 H3 Ny else Ny H3)
theorem wipe_wipe {σ : L2.St} {i : Nat} : ∀ {vs : List Nat}, i ∈ vs → (wipe σ vs)[i]? = none ∨ (wipe σ vs)[i]? = some none
  | [], h => by cases h
  | v :: vs, h => by
    unfold wipe
    by_cases e : v = i
    · subst e
      by_cases l : v < (wipe σ vs).length
      · rw [List.getElem?_set_self l]; exact .inr rfl
      · rw [List.getElem?_eq_none (by simpa using l)]; exact .inl rfl
    · rw [List.getElem?_set_ne e]
      exact wipe_wipe ((List.mem_cons.mp h).resolve_left fun z => e z.symm)
/-- the loop of one clause -/
theorem clause_loop {Y : Cx} (hx : Y.xe = fun _ _ => False) (hc : Y.calm = true) {elt tg : Expr} {gs : List Comprehension} {sc : Scope} {ps p : Pos} {k : Nat} {ifs : List Expr} {act : CpAct} (te : TurnEq (.ListComp elt gs sc ps) k p tg ifs act)
    {J : It} {fp : List Addr} {src : Addr} {tn : Nat → Heap → Prop} (T : Turn Y.prog Y.w Y.K tg J fp src tn) {g : TG} {tt : TT} {lst : Value} {vin vs : List Nat} {bd : L2.St → Hp → (Hp → Prop) → Prop} (pg : PG Y tg g) (pt : PTs Y ifs tt) (ac : Act Y act lst vin bd) (hv : ∀ i ∈ vin, i ∈ vs)
    {pins : List (Addr × Obj)} {σ : L2.St} {W : Nat → Nat → Hp → Prop} {Done : Hp → Prop}
    (turn : ∀ i m H, W i m H → (J.stop i H ∧ Done H) ∨ (J.go i H ∧ ∃ Ny : Hp → Prop, (∀ H', Ny H' → ∃ m', m' < m ∧ W (i + 1) m' H') ∧ ∀ x H', J.yld i H x H' → g x (wipe σ vs) H' fun σ2 H2 => wipe σ2 vs = wipe σ vs ∧ tt σ2 H2 fun b H3 => if b = true then bd σ2 H3 Ny else Ny H3))
    {s : Shared} {H : Hp} {m0 : Nat} (I : Inv Y pins (wipe σ vs) H s) (st : tn 0 s.heap) (hf : ∀ b ∈ fp, FpOk Y pins H b) (w0 : W 0 m0 H) :
    codeAny (model Y.prog Y.w) Y.A (.compLoop (.ListComp elt gs sc ps) k (.ref src) lst Y.env) (fun r s' => r = .ok .next ∧ ∃ H', Inv Y pins (wipe σ vs) H' s' ∧ Done H') s := by
  have rest : ∀ {H' : Hp}, (∀ b ∈ fp, H' b = none) → ∀ b ∈ fp, FpOk Y pins H' b := fun n b hb => ⟨n b hb, (hf b hb).2⟩
  refine codeAny_loop rfl (fun m s' => ∃ i H', Inv Y pins (wipe σ vs) H' s' ∧ tn i s'.heap ∧ (∀ b ∈ fp, H' b = none) ∧ W i m H') (fun m s1 ⟨i, H1, I1, st1, n1, w1⟩ => ?_) m0 ⟨0, H, I, st, fun b hb => (hf b hb).1, w0⟩
  show wpAny _ Y.A ((compTurn (.ListComp elt gs sc ps) k (.ref src) lst Y.env).onRaise (fun z => do noteFrame z Y.env; theTreesLotGoes z)) _ _ s1
  refine wpAny_noted ?_
  rw [te]
  refine wpAny_bind (wpAny_standAt (wpAny_bind ?_))
  rcases turn i m H1 w1 with ⟨hs, hd⟩ | ⟨hg, Ny, hN, step⟩
  · refine thnF (T.done Y rfl rfl rfl hc i pins s1 _ H1 (fun _ _ => False) I1 (rest n1) st1 hs) fun r s2 ⟨hr, I2⟩ => ?_
    subst hr
    exact wpAny_pure ⟨rfl, H1, I2, hd⟩
  · refine thnF (T.item Y rfl rfl rfl hc i pins s1 _ H1 (fun _ _ => False) I1 (rest n1) st1 hg) fun r s2 ⟨u, hr, hu⟩ => ?_
    subst hr
    refine wpAny_bind (thnF hu fun _ s3 ⟨x, H3, I3, rx, yx, st3, n3⟩ => wpAny_bind ?_)
    have I3p := I3.pinned (rest n3) (T.obj _ _ st3)
    refine mF hx (pg.run _ s3 _ H3 x u _ I3p rx (step x H3 yx)) fun _ s4 ⟨σ4, H4, I4, hw, q4⟩ => wpAny_bind ?_
    have back : ∀ {σ5 : L2.St} {s5 : Shared} {H5 : Hp}, Inv Y (pins ++ pinsAt fp s3.heap) σ5 H5 s5 → σ5.length = σ4.length → (∀ (j : Nat) v, (wipe σ vs)[j]? = some (some v) → σ5[j]? = some (some v)) → Ny H5 →
        ∃ m', m' < m ∧ ∃ i H', Inv Y pins (wipe σ vs) H' s5 ∧ tn i s5.heap ∧ (∀ b ∈ fp, H' b = none) ∧ W i m' H' := fun {σ5 s5 H5} I5 hl hk ny => by
      obtain ⟨m', hm, w'⟩ := hN H5 ny
      have pinned : ∀ b ∈ fp, ∀ o, s3.heap.get? b = some o → s5.heap.get? b = some o ∧ H5 b = none := fun b hb o e => by
        have z := I5.pin (b, o) (List.mem_append_right _ (List.mem_append_right _ (mem_pinsAt hb e)))
        exact ⟨z.1, z.2.1⟩
      refine ⟨m', hm, i + 1, H5, (I5.unpinned (pins := pins)).weak ?_ hk, T.keep _ _ _ st3 fun b hb o e => (pinned b hb o e).1, fun b hb => ?_, w'⟩
      · rw [← hw, wipe_length, hl]
      · obtain ⟨o, e, _⟩ := T.obj _ _ st3 b hb
        exact (pinned b hb o e).2
    have kn : ∀ (j : Nat) v, (wipe σ vs)[j]? = some (some v) → σ4[j]? = some (some v) := fun j v e => by
      rw [← hw] at e
      exact (wipe_some e).1
    refine mF hx (pt.run _ s4 σ4 H4 _ I4 q4) fun b s5 ⟨H5, I5, q5⟩ => ?_
    cases b with
    | false => exact wpAny_pure ⟨rfl, back I5 rfl kn q5⟩
    | true =>
      refine ac.run _ s5 σ4 H5 Ny I5 q5 _ _ _ fun s6 H6 I6 ny => wpAny_pure ⟨rfl, back I6 (wipe_length _ _) (fun j v e => ?_) ny⟩
      have e0 := e
      rw [← hw] at e
      obtain ⟨e1, e2⟩ := wipe_some e
      rw [wipe_out fun z => e2 (hv j z)]
      exact e1
/-- a later clause is entered -/
theorem enter_clause {prog : Program} {w : World} {A : Around} {R : Result → Shared → Prop} {s : Shared} {elt tg it : Expr} {ifs : List Expr} {gs : List Comprehension} {sc : Scope} {ps : Pos} {k : Nat} {src lst : Value} {ev : PySem.Env} (hg : gs[k]? = some ⟨tg, it, ifs, 0⟩)
    (h0 : codeAny (model prog w) A (.compLoop (.ListComp elt gs sc ps) k src lst ev) R s)
    (h1 : ∀ (Q : Value → Shared → Prop) (E : Value → Shared → Prop), Q src s → wpAny (model prog w) A (pyIter src) Q E s) :
    codeAny (model prog w) A (.compStart (.ListComp elt gs sc ps) k src lst ev) R s := by
  refine codeAny_of_tree ?_
  show wpAny _ _ ((compStart (.ListComp elt gs sc ps) k src lst ev).onRaise (fun z => do noteFrame z ev; standAt theWindowsPlace)) _ _ s
  refine wpAny_notedAt ?_
  have hcl : (clausesOf (.ListComp elt gs sc ps))[k]? = some ⟨tg, it, ifs, 0⟩ := hg
  unfold compStart
  rw [hcl]
  show wpAny _ _ (ask >>= _) _ _ s
  refine wpAny_bind (wpAny_askSetting (wpAny_ite ?_))
  split
  · first
      | exact wpAny_bind (wpAny_pure (wpAny_pure ⟨rfl, h0⟩))
      | exact wpAny_pure ⟨rfl, h0⟩
  · refine wpAny_bind (wpAny_rule ?_)
    show wpAny _ _ (standAt it.pos >>= _) _ _ s
    exact wpAny_bind (wpAny_standAt (wpAny_bind (h1 _ _ (wpAny_pure ⟨rfl, h0⟩))))
theorem act_for {Y : Cx} (hx : Y.xe = fun _ _ => False) (hc : Y.calm = true) {elt tg it : Expr} {ifs : List Expr} {gs : List Comprehension} {sc : Scope} {ps : Pos} {k : Nat} {act : CpAct} (hg : gs[k]? = some ⟨tg, it, ifs, 0⟩) (te : TurnEq (.ListComp elt gs sc ps) k it.pos tg ifs act)
    {wi : TI} {g : TG} {tt : TT} {D : Addr} {vin vs : List Nat} {bd : L2.St → Hp → (Hp → Prop) → Prop} (hi : PI Y tg it wi) (pg : PG Y tg g) (pt : PTs Y ifs tt) (ac : Act Y act (.ref D) vin bd) (hv : ∀ i ∈ vin, i ∈ vs) (hs : ∀ z, foldedSetIterable it Y.env z = pure z) :
    Act Y (aFor (.ListComp elt gs sc ps) k it) (.ref D) vs (bFor wi g tt bd vs) := by
  refine ⟨fun pins s σ H Nx I h kk Q E hk => ?_⟩
  unfold aFor
  refine wpAny_bind (mF hx (hi.run pins s σ H _ I h) fun z s1 h1 => wpAny_bind (wpAny_standAt (wpAny_bind (wpAny_of_eq (hs z) (wpAny_bind (wpAny_holding (mF hx h1 fun zi s2 h2 => ?_)))))))
  obtain ⟨src, fp, tn, J, H2, e, I2, T, st, hf, W, ⟨m0, w0⟩, turn⟩ := h2
  subst e
  refine wpAny_bind (wpAny_runOwn ?_)
  rw [Around.mark_none]
  have loop := clause_loop hx hc te T pg pt ac hv turn (I2.weak (wipe_length _ _) fun j v e => (wipe_some e).1) st hf w0
  refine codeAny_mono (enter_clause hg loop fun Q E q => T.self _ 0 _ _ _ st q) fun r s3 hr => ?_
  obtain ⟨rfl, H3, I3, nx⟩ := hr
  first
    | exact hk s3 H3 I3 nx
    | exact wpAny_pure (hk s3 H3 I3 nx)
    | exact wpAny_bind (wpAny_pure (hk s3 H3 I3 nx))
end Cq
set_option Elab.async false
set_option linter.all false
set_option maxRecDepth 100000
set_option autoImplicit false
set_option maxHeartbeats 4000000
namespace Cq
open PySem L2 PySem.Spec PyProof.Rows
def tLcN (wi : TI) (g : TG) (tt : TT) (bd : Addr → L2.St → Hp → (Hp → Prop) → Prop) (vs : List Nat) : TE := fun σ H Q => wi σ H fun J H1 => ∀ D, H1 D = none → ∃ W : Nat → Nat → Hp → Prop, (∃ m, W 0 m (upd H1 D (.lst []))) ∧ ∀ i m H, W i m H →
  (J.stop i H ∧ Q (.ref D) H) ∨ (J.go i H ∧ ∃ Ny : Hp → Prop, (∀ H', Ny H' → ∃ m', m' < m ∧ W (i + 1) m' H') ∧ ∀ x H', J.yld i H x H' → g x (wipe σ vs) H' fun σ2 H2 => wipe σ2 vs = wipe σ vs ∧ tt σ2 H2 fun b H3 =>
    if b = true then bd D σ2 H3 Ny else Ny H3)
/-- what holds within the comprehension's block, wherever it stands -/
def InBlk (X : Cx) (scope : Scope) (P : Cx → Prop) : Prop := ∀ (s : Shared) (H : Hp) (C : Addr) (cl : List (Str × Addr)) (fp : List Addr), P (X.blk s H scope (compEnvC scope cl C X.env) fp)
theorem pe_lcN {X : Cx} {elt tg iter : Expr} {ifs : List Expr} {gs : List Comprehension} {scope : Scope} {own : List (Str × Nat)} {vin : List Nat} {pos : Pos} {wi : TI} {g : TG} {tt : TT} {act : CpAct} {bd : Addr → L2.St → Hp → (Hp → Prop) → Prop} (hc : X.calm = true) (hN : X.N.Nodup)
    (te : TurnEq (.ListComp elt (⟨tg, iter, ifs, 0⟩ :: gs) scope pos) 0 iter.pos tg ifs act) (hi : PI X tg iter wi) (ok : BlkOk X.N X.env.scope scope own) (hv : ∀ i ∈ vin, i ∈ own.map (·.2))
    (hg : InBlk X scope fun Y => PG Y tg g) (ht : InBlk X scope fun Y => PTs Y ifs tt) (ha : ∀ D, InBlk X scope fun Y => Act Y act (.ref D) vin (bd D)) (hs : ∀ z, foldedSetIterable iter X.env z = pure z := by intro _; rfl) :
    PE X (.ListComp elt (⟨tg, iter, ifs, 0⟩ :: gs) scope pos) (tLcN wi g tt bd (own.map (·.2))) := by
  refine ⟨fun pins s σ H Q I h => ?_⟩
  rw [eval_ListComp]
  have cellOf : ∀ y ∈ scope.names, y.2 = .free → ∃ c, X.env.cells.lookup y.1 = some c := fun y hy e => (ok.free y hy e).elim (fun k => I.ok.has _ (.inl k)) fun k => I.ok.has _ (.inr k)
  refine wpAny_comprehension_free rfl hs (closure_ok cellOf) ok.kind (fun y hy e => by rw [ok.uniq y hy, e]) (thn (hi.run pins s σ H _ I h) fun z u1 hz => thn hz fun zi u2 h2 => ?_)
  obtain ⟨src, fp, tn, J, H2, e, I2, T, st2, f2, q⟩ := h2
  subst e
  refine wpAny_newObj_type (newEnv_comp ?_) (by show 0 ≤ sizeLine; decide)
  generalize hD : u2.heap.objs.size = D
  have fresh : H2 D = none := I2.hok.fresh (Nat.le_of_eq hD)
  obtain ⟨W, ⟨m0, w0⟩, turn⟩ := q D fresh
  generalize hu3 : ({ u2 with heap := u2.heap.push { cls := .type "list", data := .seq ([] : List Value).toArray } } : Shared) = u3
  have hp3 : u3.heap = u2.heap.push { cls := .type "list", data := .seq ([] : List Value).toArray } := by rw [← hu3]
  have I3 : Inv X pins σ (upd H2 D (.lst [])) u3 := by
    rw [← hu3]
    exact I2.laid (t' := u2.toks) (fun _ _ e => Heap.get?_push_of_some _ e) (Nat.le_of_eq hD) ⟨Nat.zero_le _, [], 0, .nil, by rw [← hD]; exact Heap.get?_push_size _ rfl⟩
  have small : ∀ b ∈ fp, b < u2.heap.objs.size := fun b hb => let ⟨_, e, _⟩ := T.obj _ _ st2 b hb; Heap.lt_size e
  have f3 : ∀ b ∈ fp, FpOk X pins (upd H2 D (.lst [])) b ∧ b < u3.heap.objs.size := fun b hb => by
    have l := small b hb
    refine ⟨⟨?_, (f2 b hb).2⟩, by rw [hp3, Heap.size_push]; exact Nat.lt_succ_of_lt l⟩
    rw [upd_ne (by rw [← hD]; exact Nat.ne_of_lt l)]
    exact (f2 b hb).1
  have st3 : tn 0 u3.heap := T.keep _ _ _ st2 fun _ _ _ e => by rw [hp3]; exact Heap.get?_push_of_some _ e
  have I4 := block_start I3 ok hN f3
  generalize hcl : cellsFrom (u3.heap.objs.size + 1) scope.names (cloFrom X.env.cells scope.names []) = cl at I4
  have pg := hg u3 (upd H2 D (.lst [])) u3.heap.objs.size cl fp
  have pt := ht u3 (upd H2 D (.lst [])) u3.heap.objs.size cl fp
  have pa := ha D u3 (upd H2 D (.lst [])) u3.heap.objs.size cl fp
  generalize hu4 : ({ u3 with heap := pushCells (u3.heap.push { cls := .type "dict", data := .dict #[] }) scope.names } : Shared) = u4 at I4
  have st4 : tn 0 u4.heap := T.keep _ _ _ st3 fun _ _ _ e => by rw [← hu4]; exact pushCells_keeps _ _ _ _ (Heap.get?_push_of_some _ e)
  have fb : ∀ b ∈ fp, FpOk (X.blk u3 (upd H2 D (.lst [])) scope (compEnvC scope cl u3.heap.objs.size X.env) fp) [] (upd H2 D (.lst [])) b := fun b hb =>
    ⟨(f3 b hb).1.1, (I4.ok.exf b hb).1, I4.ok.exfs b hb, .inl hb, fun x c e => (I4.ok.exf b hb).2 x c e, fun p hp => absurd (show p ∈ ([] : List (Addr × Obj)) ++ [] from hp) (by simp)⟩
  have loop := clause_loop (Y := X.blk u3 (upd H2 D (.lst [])) scope (compEnvC scope cl u3.heap.objs.size X.env) fp) rfl hc te T pg pt pa hv turn I4 st4 fb w0
  have loop' := codeAny_compStart_list loop (T.self X.A 0 _ _ _ st4 loop)
  subst hcl
  subst hu4
  subst hu3
  refine codeAny_mono loop' fun r u5 hr => ?_
  obtain ⟨rfl, H5, I5, q5⟩ := hr
  have I6 : Inv X pins σ H5 u5 := I3.call' (ch := fp) I5.os I5.base I5.hok I5.bare fun b hb => ⟨(f3 b hb).1.2.2.2.1, (f3 b hb).1.2.1, (f3 b hb).1.2.2.2.2.1, (f3 b hb).1.2.2.2.2.2⟩
  obtain ⟨mm, hn, _⟩ := I5.loc
  have noC := I5.free
  refine ⟨mm, hn, fun h6 sb => ?_⟩
  obtain ⟨f0, f1, f2', f3', f4, f5⟩ := I3.fpOk (Nat.le_refl _) noC
  exact ⟨.ref D, H5, I6.turned (t' := u5.toks) (fun b o hb e => (sb.2 b hb).trans e) f0 f1 f3' f4 f5, rfl, q5⟩
end Cq
set_option Elab.async false
set_option linter.all false
set_option maxRecDepth 100000
set_option autoImplicit false
set_option maxHeartbeats 4000000
namespace Cq
open PySem L2 PySem.Spec PyProof.Rows
section
variable {X : Cx} {tg : Expr}
theorem cr_range1 : CallR X (.type "range") (fun vs H Q => ∃ j, vs = [V.int j] ∧ ∀ p, H p = none → Q (.ref p) (upd H p (.rng 0 j))) := by
  intro pins s σ H vs us Q I r h
  obtain ⟨j, rfl, q⟩ := h
  obtain ⟨u, rfl, ru⟩ := vals1 r
  obtain ⟨t, rfl⟩ := ru
  refine call_range_1 ⟨.ref s.heap.objs.size, upd H s.heap.objs.size (.rng 0 j), I.laid (t' := s.toks + 1 + 1) (fun _ _ e => Heap.get?_push_of_some _ e) (Nat.le_refl _) ?_, rfl, q _ (I.hok.fresh (Nat.le_refl _))⟩
  exact ⟨s.toks, t, s.toks + 1, Heap.get?_push_size _ rfl⟩
/-- a kept range is walked -/
def iRg (tl : TE) : TI := fun σ H R => tl σ H fun x H1 => ∃ a j, x = .ref a ∧ H1 a = some (.rng 0 j) ∧ 0 ≤ j ∧ j < 2 ^ 62 ∧ R (Itr 0 j.toNat) H1
theorem pi_rg {l : Expr} {tl : TE} (hl : PE X l tl) : PI X tg l (iRg tl) := by
  refine ⟨fun pins s σ H R I h => thn (hl.run pins s σ H _ I h) fun v s1 ⟨x, H1, I1, r1, a, j, e, ha, j0, j1, q⟩ => ?_⟩
  subst e
  cases r1
  obtain ⟨t, u, v, hg⟩ := I1.hok a _ ha
  refine wpAny_pyIter_range (a := 0) (b := j) (c := 1) (t := t) (u := u) (v := v) hg (small_one (by decide) (by decide) (by omega) j1) ?_
  refine ⟨_, [s1.heap.objs.size], _, _, H1, rfl, I1.kept (t' := s1.toks) fun _ _ e => Heap.get?_push_of_some _ e, turn_range _ 0 j.toNat, ?_, fun b hb => ?_, q⟩
  · have e1 : ((j.toNat : Nat) : Int) - ((0 : Nat) : Int) = Builtin.Range.rangeSize 0 j 1 := by rw [rangeSize_one]; split <;> omega
    show IsRangeIter _ _ (0 + ((0 : Nat) : Int) * 1) _ 1
    rw [e1]
    exact Heap.get?_push_size _ rfl
  · obtain rfl : b = s1.heap.objs.size := by simpa using hb
    exact I1.fpOk (Nat.le_refl _) (I1.hok.fresh (Nat.le_refl _))
end
end Cq
set_option Elab.async false
set_option linter.all false
set_option maxRecDepth 100000
set_option autoImplicit false
set_option maxHeartbeats 4000000
/-! letters = range(size); [(x, y, z) for x in letters for y in letters for z in letters] -/
namespace Dn
open PySem L2 Evl Cq PyProof.Rows
def t3 (n : Nat) : List (Int × Int × Int) := (rgI n).flatMap fun x => (rgI n).flatMap fun y => (rgI n).map fun z => (x, y, z)
def tT (t : Int × Int × Int) : D := .tuple [.int t.1, .int t.2.1, .int t.2.2]
def vT (t : Int × Int × Int) : HO := .tup [.int t.1, .int t.2.1, .int t.2.2]
theorem flat_len {α β : Type} (l : List α) (f : α → List β) (k : Nat) (h : ∀ a, a ∈ l → (f a).length = k) : (l.flatMap f).length = l.length * k := by
  induction l with
  | nil => simp
  | cons a l ih =>
    rw [List.flatMap_cons, List.length_append, h a (by simp), ih fun b hb => h b (by simp [hb]), List.length_cons, Nat.succ_mul, Nat.add_comm]
theorem t3_len (n : Nat) : (t3 n).length = n * (n * n) := by
  unfold t3
  rw [flat_len _ _ (n * n) fun x _ => ?_, rgI_len]
  rw [flat_len _ _ n fun y _ => by rw [List.length_map, rgI_len], rgI_len]
theorem rgI_succ (n : Nat) : rgI (n + 1) = rgI n ++ [(n : Int)] := by
  unfold rgI
  rw [List.range_succ, List.map_append]
  rfl
theorem mem_t3 {n : Nat} {t : Int × Int × Int} : t ∈ t3 n ↔ (0 ≤ t.1 ∧ t.1 < n) ∧ (0 ≤ t.2.1 ∧ t.2.1 < n) ∧ 0 ≤ t.2.2 ∧ t.2.2 < n := by
  unfold t3
  simp only [List.mem_flatMap, List.mem_map, mem_rgI]
  constructor
  · rintro ⟨x, hx, y, hy, z, hz, rfl⟩; exact ⟨hx, hy, hz⟩
  · rintro ⟨hx, hy, hz⟩; exact ⟨t.1, hx, t.2.1, hy, t.2.2, hz, rfl⟩
theorem pair_app {α β : Type} {R : α → β → Prop} : ∀ {a c : List α} {b d : List β}, Paired R a b → Paired R c d → Paired R (a ++ c) (b ++ d)
  | _, _, _, _, .nil, q => q
  | _, _, _, _, .cons h p, q => .cons h (pair_app p q)
/-- the list at L holds new triples -/
def Tri (H1 H : Hp) (L : Addr) (ts : List (Int × Int × Int)) : Prop := Ex H1 H ∧ ∃ us, H L = some (.lst us) ∧ Paired (fun (t : Int × Int × Int) (u : V) => ∃ a, u = .ref a ∧ a ≠ L ∧ H1 a = none ∧ H a = some (vT t)) ts us
theorem Tri.snoc {H1 H : Hp} {L q : Addr} {ts : List (Int × Int × Int)} (h : Tri H1 H L ts) (hL : H1 L = none) (hq : H q = none) (t : Int × Int × Int) : ∃ us, upd H q (vT t) L = some (.lst us) ∧ us.length = ts.length ∧ Tri H1 (upd (upd H q (vT t)) L (.lst (us ++ [.ref q]))) L (ts ++ [t]) := by
  obtain ⟨e, us, hl, hp⟩ := h
  have qL : q ≠ L := fun z => by rw [z, hl] at hq; cases hq
  refine ⟨us, by rw [upd_ne qL.symm]; exact hl, hp.length.symm, ?_, us ++ [.ref q], upd_same, ?_⟩
  · intro a o w
    rw [upd_ne (fun z => by rw [z, hL] at w; cases w), upd_ne (fun z => by rw [← z, e a o w] at hq; cases hq)]
    exact e a o w
  · refine pair_app (Paired.mapP hp fun s u z => ?_) (.cons ⟨q, rfl, qL, ?_, by rw [upd_ne qL, upd_same]⟩ .nil)
    · obtain ⟨a, e1, e2, e3, e4⟩ := z
      exact ⟨a, e1, e2, e3, by rw [upd_ne e2, upd_ne (fun z => by rw [← z, e4] at hq; cases hq)]; exact e4⟩
    · cases w : H1 q with
      | none => rfl
      | some o => rw [e q o w] at hq; cases hq
def g3 : DS := fun E ρ => ∃ n : Nat, ρ = [some (.im (.int n)), none, none, none, none] ∧ n ≤ 60 ∧ E.rt (.list ((t3 n).map tT)) ρ
theorem tri_step {H1 H : Hp} {L : Addr} {ts : List (Int × Int × Int)} (h : Tri H1 H L ts) (hL : H1 L = none) (hl : ts.length < 16777216) {x y z : Int} {σ : L2.St} (e2 : σ[2]? = some (some (.int x))) (e3 : σ[3]? = some (some (.int y))) (e4 : σ[4]? = some (some (.int z))) {Nx : Hp → Prop} (k : ∀ H', Tri H1 H' L (ts ++ [(x, y, z)]) → Nx H') :
    bApp L (tTup (tCons (tVar 2) (tCons (tVar 3) (tCons (tVar 4) tNil)))) σ H Nx := by
  refine ⟨_, e2, _, e3, _, e4, by show 3 ≤ sizeLine; decide, fun q hq => ?_⟩
  obtain ⟨us, h1, h2, h3⟩ := h.snoc hL hq (x, y, z)
  exact ⟨us, h1, by rw [h2, sizeLine_eq]; exact hl, k _ h3⟩
/-- a clause over 0, 1, .. n - 1 that only lengthens the list -/
theorem clause_W {i : Nat} {bd : L2.St → Hp → (Hp → Prop) → Prop} {vs : List Nat} {H1 : Hp} {L : Addr} {n : Nat} (f : Int → List (Int × Int × Int)) {ts : List (Int × Int × Int)} {σ : L2.St} {H : Hp} {Nx : Hp → Prop}
    (hw : ∀ x : V, wipe ((wipe σ vs).set i (some x)) vs = wipe σ vs)
    (hb : ∀ (x : Nat) (us : List (Int × Int × Int)) (H' : Hp) (Ny : Hp → Prop), x < n → Tri H1 H' L us → us = ts ++ (rgI x).flatMap f → (∀ H2, Tri H1 H2 L (us ++ f x) → Ny H2) → bd ((wipe σ vs).set i (some (.int x))) H' Ny)
    (h : Tri H1 H L ts) (k : ∀ H', Tri H1 H' L (ts ++ (rgI n).flatMap f) → Nx H') :
    ∃ W : Nat → Nat → Hp → Prop, (∃ m, W 0 m H) ∧ ∀ j m H, W j m H → ((Itr 0 (n : Int).toNat).stop j H ∧ Nx H) ∨ ((Itr 0 (n : Int).toNat).go j H ∧ ∃ Ny : Hp → Prop, (∀ H', Ny H' → ∃ m', m' < m ∧ W (j + 1) m' H') ∧ ∀ x H', (Itr 0 (n : Int).toNat).yld j H x H' →
      gName i x (wipe σ vs) H' fun σ2 H2 => wipe σ2 vs = wipe σ vs ∧ tYes σ2 H2 fun b H3 => if b = true then bd σ2 H3 Ny else Ny H3) := by
  refine ⟨fun j m H' => m = n - j ∧ j ≤ n ∧ Tri H1 H' L (ts ++ (rgI j).flatMap f), ⟨n, by simp, Nat.zero_le _, by simpa [rgI] using h⟩, ?_⟩
  rintro j m H' ⟨rfl, hj, t⟩
  by_cases l : j < n
  · refine .inr ⟨by show j < (n : Int).toNat; omega, fun H2 => Tri H1 H2 L (ts ++ (rgI (j + 1)).flatMap f), fun H2 q => ⟨n - (j + 1), by omega, rfl, l, q⟩, fun x H2 y => ?_⟩
    obtain ⟨rfl, rfl⟩ := y
    refine ⟨hw _, ?_⟩
    show bd _ _ _
    rw [Int.zero_add]
    refine hb j _ _ _ l t rfl fun H3 q => ?_
    rw [rgI_succ, List.flatMap_append, ← List.append_assoc]
    simpa using q
  · have e : j = n := by omega
    subst e
    exact .inl ⟨by show (j : Int).toNat ≤ j; omega, k _ t⟩
theorem clause_ok {tl : TE} {i : Nat} {bd : L2.St → Hp → (Hp → Prop) → Prop} {vs : List Nat} {H1 : Hp} {L p : Addr} {n : Nat} (f : Int → List (Int × Int × Int)) {ts : List (Int × Int × Int)} {σ : L2.St} {H : Hp} {Nx : Hp → Prop} (hp : H1 p = some (.rng 0 n)) (hn : n < 100)
    (ht : ∀ (H' : Hp) (Q : VK), Q (.ref p) H' → tl σ H' Q) (hw : ∀ x : V, wipe ((wipe σ vs).set i (some x)) vs = wipe σ vs)
    (hb : ∀ (x : Nat) (us : List (Int × Int × Int)) (H' : Hp) (Ny : Hp → Prop), x < n → Tri H1 H' L us → us = ts ++ (rgI x).flatMap f → (∀ H2, Tri H1 H2 L (us ++ f x) → Ny H2) → bd ((wipe σ vs).set i (some (.int x))) H' Ny)
    (h : Tri H1 H L ts) (k : ∀ H', Tri H1 H' L (ts ++ (rgI n).flatMap f) → Nx H') : bFor (iRg tl) (gName i) tYes bd vs σ H Nx :=
  ht H _ ⟨p, n, rfl, h.1 _ _ hp, by omega, by omega, clause_W f hw hb h k⟩
theorem flat_one {α β : Type} (l : List α) (f : α → β) : (l.flatMap fun a => [f a]) = l.map f := by
  induction l with
  | nil => rfl
  | cons a l ih => rw [List.flatMap_cons, ih]; rfl
theorem tri_rp {K : PySem.W.Frag} {O : Addr → Prop} {H1 H : Hp} {L : Addr} (hO : ∀ a, O a → H1 a ≠ none) : ∀ {ts : List (Int × Int × Int)} {us : List V}, Paired (fun (t : Int × Int × Int) (u : V) => ∃ a, u = .ref a ∧ a ≠ L ∧ H1 a = none ∧ H a = some (vT t)) ts us → RpAll K (hide O H) us (ts.map tT)
  | _, _, .nil => .nil
  | _, _, .cons ⟨a, e, _, e1, e2⟩ r => by
    subst e
    exact .cons (.tup (hide_some.2 ⟨fun w => hO a w e1, e2⟩) (.cons (.int _) (.cons (.int _) (.cons (.int _) .nil)))) (tri_rp hO r)
section
variable {X : Cx}
theorem jss_threes {sc : Scope} {q1 q2 q3 q4 q5 p2 p3 p4 p5 p6 p7 p8 p9 pa pb pc pd : Pos} {kk} (hc : X.calm = true) (hN : X.N.Nodup) (h0 : X.N = (["size", "letters", "x", "y", "z"] : List Str)) (hm : X.mg "range" = none) (hg : Gl X "range")
    (v0 : Vis X.env.scope "size") (l1 : Loc X.env.scope "letters") (f1 : X.fn "letters" = true ∨ X.env.scope.names.lookup ("letters" : Str) = some .local) (v1 : Vis X.env.scope "letters") (ok : BlkOk X.N X.env.scope sc [("x", 2), ("y", 3), ("z", 4)])
    (pi1 : InBlk X sc fun Y => PE Y (.Name "letters" p5) (tVar 1)) (pi2 : InBlk X sc fun Y => PE Y (.Name "letters" p7) (tVar 1))
    (gx : InBlk X sc fun Y => PG Y (.Name "x" p2) (gName 2)) (gy : InBlk X sc fun Y => PG Y (.Name "y" p4) (gName 3)) (gz : InBlk X sc fun Y => PG Y (.Name "z" p6) (gName 4))
    (el : InBlk X sc fun Y => PE Y (.Tuple [.Name "x" p8, .Name "y" p9, .Name "z" pa] kk pb) (tTup (tCons (tVar 2) (tCons (tVar 3) (tCons (tVar 4) tNil)))))
    (hs : swapsWith (.Call (.Name "range" q2) [.Name "size" q3] [] q4) (some (.Name "letters" q1)) q5.line X.env = pure false)
    (hst : starEach [.Name "size" q3] X.env = (false, eval (.Name "size" q3) X.env) :: starEach [] X.env) (hpl : (backTo q4 (starEach [] X.env)).any (·.1) = false) :
    JSs X [.Assign [.Name "letters" q1] (.Call (.Name "range" q2) [.Name "size" q3] [] q4) q5, .Return (some (.ListComp (.Tuple [.Name "x" p8, .Name "y" p9, .Name "z" pa] kk pb) [⟨.Name "x" p2, .Name "letters" p3, [], 0⟩, ⟨.Name "y" p4, .Name "letters" p5, [], 0⟩, ⟨.Name "z" p6, .Name "letters" p7, [], 0⟩] sc pc)) pd] g3 := by
  have n0 : X.N[0]? = some ("size" : Str) := by rw [h0]; rfl
  have n1 : X.N[1]? = some ("letters" : Str) := by rw [h0]; rfl
  have a1 : PS X (.Assign [.Name "letters" q1] (.Call (.Name "range" q2) [.Name "size" q3] [] q4) q5) _ := ps_set (i := 1) hN n1 l1 (pe_callTy cr_range1 hg hm boot_range (pa_cons (pe_var (i := 0) n0 v0) pa_nil hst) (by decide) (by decide) hst hpl) hs f1
  have acts : ∀ D, InBlk X sc fun Y => Act Y (aFor (.ListComp (.Tuple [.Name "x" p8, .Name "y" p9, .Name "z" pa] kk pb) [⟨.Name "x" p2, .Name "letters" p3, [], 0⟩, ⟨.Name "y" p4, .Name "letters" p5, [], 0⟩, ⟨.Name "z" p6, .Name "letters" p7, [], 0⟩] sc pc) 1 (.Name "letters" p5)) (.ref D) [3, 4]
      (bFor (iRg (tVar 1)) (gName 3) tYes (bFor (iRg (tVar 1)) (gName 4) tYes (bApp D (tTup (tCons (tVar 2) (tCons (tVar 3) (tCons (tVar 4) tNil))))) [4]) [3, 4]) := fun D s H C cl fp => by
    have e1 := el s H C cl fp
    have y1 := pi1 s H C cl fp
    have y2 := pi2 s H C cl fp
    have z1 := gy s H C cl fp
    have z2 := gz s H C cl fp
    generalize hY : X.blk s H sc (compEnvC sc cl C X.env) fp = Y at e1 y1 y2 z1 z2
    have x1 : Y.xe = fun _ _ => False := by rw [← hY]
    have x2 : Y.calm = true := by rw [← hY]; exact hc
    exact act_for x1 x2 rfl turn3_1 (pi_rg (tg := .Name "y" p4) y1) z1 pts_nil (act_for x1 x2 rfl turn3_2 (pi_rg (tg := .Name "z" p6) y2) z2 pts_nil (act_app x1 e1) (by intro i hi; cases hi) (fun _ => rfl)) (by intro i hi; simp at hi ⊢; exact .inr hi) (fun _ => rfl)
  have a2 := pe_lcN (X := X) (pos := pc) (own := [("x", 2), ("y", 3), ("z", 4)]) (vin := [3, 4]) (act := aFor _ 1 (.Name "letters" p5))
    (bd := fun D => bFor (iRg (tVar 1)) (gName 3) tYes (bFor (iRg (tVar 1)) (gName 4) tYes (bApp D (tTup (tCons (tVar 2) (tCons (tVar 3) (tCons (tVar 4) tNil))))) [4]) [3, 4]) (wi := iRg (tVar 1)) (g := gName 2) (tt := tYes)
    hc hN turn3_0 (pi_rg (tg := .Name "x" p2) (pe_var (i := 1) (pos := p3) n1 v1)) ok (by decide) gx (fun _ _ _ _ _ => pts_nil)
    acts (fun _ => rfl)
  refine ⟨_, pss_cons a1 (pss_one (ps_ret a2)), fun T ρ σ H E D r h k => ?_⟩
  obtain ⟨n, rfl, hn, h⟩ := h
  obtain ⟨v, s0, rv⟩ := r.im 0 _ rfl
  cases rv
  refine ⟨_, s0, _, rfl, fun p hp => ?_⟩
  have len : σ.length = 5 := by rw [← r.len]; rfl
  obtain ⟨b0, b1, b2, b3, b4, rfl⟩ : ∃ b0 b1 b2 b3 b4, σ = [b0, b1, b2, b3, b4] := by
    match σ, len with
    | [b0, b1, b2, b3, b4], _ => exact ⟨_, _, _, _, _, rfl⟩
  simp at s0
  subst s0
  have e1 := Ex.new (o := .rng 0 n) hp
  refine ⟨_, rfl, p, n, rfl, upd_same, by omega, by omega, fun L hL => ?_⟩
  have lP : upd H p (.rng 0 n) p = some (.rng 0 n) := upd_same
  refine clause_W (i := 2) (vs := [2, 3, 4]) (H1 := upd H p (.rng 0 n)) (L := L) (n := n) (σ := [some (.int n), some (.ref p), b2, b3, b4])
    (bd := bFor (iRg (tVar 1)) (gName 3) tYes (bFor (iRg (tVar 1)) (gName 4) tYes (bApp L (tTup (tCons (tVar 2) (tCons (tVar 3) (tCons (tVar 4) tNil))))) [4]) [3, 4])
    (fun x => (rgI n).flatMap fun y => (rgI n).map fun z => (x, y, z)) (ts := []) (Nx := fun H' => D.rt (.ref L) H') (fun x => rfl) (fun x us H' Ny hx t e k1 => ?_) ⟨Ex.new hL, [], upd_same, .nil⟩ (fun H' t => ?_)
  · have cap : ∀ us : List (Int × Int × Int), us.length ≤ n * (n * n) → us.length < 16777216 := fun us l => by
      have a := Nat.mul_le_mul hn (Nat.mul_le_mul hn hn)
      omega
    refine clause_ok (p := p) (n := n) (fun y => (rgI n).map fun z => ((x : Int), y, z)) lP (by omega) (fun H' Q q => ⟨_, rfl, q⟩) (fun x => rfl) (fun y us2 H2 Nz hy t2 e2 k2 => ?_) t k1
    refine clause_ok (p := p) (n := n) (fun z => [((x : Int), (y : Int), z)]) lP (by omega) (fun H' Q q => ⟨_, rfl, q⟩) (fun x => rfl) (fun z us3 H3 Nw hz t3' e3 k3 => ?_) t2 (fun H3 q => k2 H3 (by rw [← flat_one]; exact q))
    refine tri_step t3' hL (cap _ ?_) rfl rfl rfl k3
    have c1 : us.length = x * (n * n) := by
      rw [e, List.nil_append, flat_len _ _ (n * n) fun a _ => ?_, rgI_len]
      rw [flat_len _ _ n fun b _ => by rw [List.length_map, rgI_len], rgI_len]
    have c2 : us2.length = us.length + y * n := by
      rw [e2, List.length_append, flat_len _ _ n fun b _ => by rw [List.length_map, rgI_len], rgI_len]
    have c3 : us3.length = us2.length + z := by
      rw [e3, List.length_append, flat_len _ _ 1 fun b _ => rfl, rgI_len, Nat.mul_one]
    have h1 : (x + 1) * (n * n) ≤ n * (n * n) := Nat.mul_le_mul_right _ hx
    have h2 : (y + 1) * n ≤ n * n := Nat.mul_le_mul_right _ hy
    rw [Nat.succ_mul] at h1 h2
    omega
  · obtain ⟨eX, us, hl, hp3⟩ := t
    rw [List.nil_append] at hp3
    have eX' : Ex H H' := e1.trans eX
    have lN : H L = none := by
      cases w : H L with
      | none => rfl
      | some o => rw [e1 L o w] at hL; cases hL
    have r2 := (r.grow eX').congr (σ' := [some (.int n), some (.ref p), b2, b3, b4]) rfl (fun i sv w => by
      match i, w with
      | 0, _ => rfl
      | 1, w => cases w
      | 2, w => cases w
      | 3, w => cases w
      | 4, w => cases w
      | i + 5, w => simp at w)
    have noO : ∀ a, Hd T [some (.im (.int n)), none, none, none, none] [some (.int n), some (.ref p), b2, b3, b4] a → upd H p (.rng 0 n) a ≠ none := fun a w => by
      rcases w with w | ⟨i, m, w, _⟩
      · have := r.dom a w
        cases q : H a with
        | none => exact absurd q this
        | some o => rw [e1 a o q]; simp
      · match i, w with
        | 0, w => cases w
        | 1, w => cases w
        | 2, w => cases w
        | 3, w => cases w
        | 4, w => cases w
        | i + 5, w => simp at w
    have po : Po [some (.im (.int n)), none, none, none, none] [some (.int n), b1, b2, b3, b4] H [some (.im (.int n)), none, none, none, none] [some (.int n), some (.ref p), b2, b3, b4] H' := ⟨fun a o _ w => eX' a o w, fun a ⟨i, m, w, _⟩ => by
      match i, w with
      | 0, w => cases w
      | 1, w => cases w
      | 2, w => cases w
      | 3, w => cases w
      | 4, w => cases w
      | i + 5, w => simp at w, fun a w => by
      cases q : H a with
      | none => exact absurd q w
      | some o => rw [eX' a o q]; simp⟩
    exact k.rt _ _ _ _ _ r2 po (.lst (hide_some.2 ⟨fun w => noO L w hL, hl⟩) (tri_rp noO hp3)) h
end
end Dn
set_option Elab.async false
set_option linter.all false
set_option maxRecDepth 100000
set_option autoImplicit false
set_option maxHeartbeats 4000000
/-! Lists of lists that are changed through a second name: the frame's new lists are told by their shape alone. -/
namespace Dn
open PySem L2 Evl
/-- no list and no dict stands in it -/
inductive NL : D → Prop
  | non : NL .none
  | bl (b : Bool) : NL (.bool b)
  | int (i : Int) : NL (.int i)
  | str (x : Str) : NL (.str x)
  | tup {ds : List D} : (∀ d, d ∈ ds → NL d) → NL (.tuple ds)
/-- lists of such, of any depth -/
inductive PL : D → Prop
  | nl {d : D} : NL d → PL d
  | lst {ds : List D} : (∀ d, d ∈ ds → PL d) → PL (.list ds)
def notL : D → Prop
  | .list _ => False
  | _ => True
/-- some lists of notL things are now es -/
inductive Ch (es : List D) : D → D → Prop
  | nl {d : D} : NL d → Ch es d d
  | repl {ds : List D} : (∀ d, d ∈ ds → notL d) → es.length = ds.length → Ch es (.list ds) (.list es)
  | lst {ds ds' : List D} : ds'.length = ds.length → (∀ (i : Nat) (d d' : D), ds[i]? = some d → ds'[i]? = some d' → Ch es d d') → Ch es (.list ds) (.list ds')
section
variable {K : PySem.W.Frag} {T B : Addr → Prop} {p : Addr} {ρ ρ1 ρ' : Env} {σ σ1 : L2.St} {H H1 H' G G' : Hp}
theorem NL.notL {d : D} (h : NL d) : notL d := by cases h <;> trivial
mutual
theorem nl_keep {b : Addr} (hb : ∀ a o, a ≠ b → G a = some o → G' a = some o) {xs : List V} (hl : G b = some (.lst xs)) : ∀ {v : V} {d : D}, NL d → Rp K G v d → Rp K G' v d
  | _, _, _, .non => .non
  | _, _, _, .bl b => .bl b
  | _, _, _, .int b => .int b
  | _, _, _, .str b => .str b
  | _, _, n, .lst _ _ => nomatch n
  | _, _, .tup n, .tup h r => .tup (hb _ _ (fun z => by rw [z, hl] at h; cases h) h) (nls_keep hb hl n r)
  | _, _, n, .dct _ _ z => by subst z; cases n
  | _, _, n, .frz _ _ => nomatch n
theorem nls_keep {b : Addr} (hb : ∀ a o, a ≠ b → G a = some o → G' a = some o) {xs : List V} (hl : G b = some (.lst xs)) : ∀ {vs : List V} {ds : List D}, (∀ d, d ∈ ds → NL d) → RpAll K G vs ds → RpAll K G' vs ds
  | _, _, _, .nil => .nil
  | _, _, n, .cons h r => .cons (nl_keep hb hl (n _ (by simp)) h) (nls_keep hb hl (fun d hd => n d (by simp [hd])) r)
end
/-- of a value that is related to something without lists -/
theorem notL_same {v : V} {d e : D} (h : Rp K G v d) (n : NL d) (h2 : Rp K G v e) : notL e := by
  cases h2 with
  | lst q _ =>
    cases h with
    | lst _ _ => cases n
    | tup p _ => rw [q] at p; cases p
    | dct _ _ z => subst z; cases n
    | frz _ _ => cases n
  | _ => trivial
theorem notL_all : ∀ {vs : List V} {ds es : List D}, RpAll K G vs ds → (∀ d, d ∈ ds → NL d) → RpAll K G vs es → ∀ e, e ∈ es → notL e
  | _, _, _, .nil, _, .nil => by simp
  | _, _, _, .cons h r, n, .cons h2 r2 => fun e he => by
    rcases List.mem_cons.mp he with rfl | he
    · exact notL_same h (n _ (by simp)) h2
    · exact notL_all r (fun d hd => n d (by simp [hd])) r2 e he
/-- the list at b is changed -/
theorem pl_change {b : Addr} {xs us : List V} {ds0 es : List D} (hb : ∀ a o, a ≠ b → G a = some o → G' a = some o) (hl : G b = some (.lst xs)) (hl' : G' b = some (.lst us)) (h0 : RpAll K G xs ds0) (n0 : ∀ d, d ∈ ds0 → NL d) (hu : RpAll K G us es) (ne : ∀ d, d ∈ es → NL d) (le : us.length = xs.length) :
    ∀ {d : D}, PL d → ∀ {v : V}, Rp K G v d → ∃ d', Rp K G' v d' ∧ Ch es d d' := by
  intro d p
  induction p with
  | nl n => exact fun r => ⟨_, nl_keep hb hl n r, .nl n⟩
  | @lst ds _ ih =>
    intro v r
    cases r with
    | @lst a ys _ q rr =>
      by_cases e : a = b
      · subst e
        rw [hl] at q; cases q
        exact ⟨.list es, .lst hl' (nls_keep hb hl ne hu), .repl (notL_all h0 n0 rr) (by rw [← hu.length, le, rr.length])⟩
      · have all : ∀ {ys : List V} {ds : List D}, (∀ d, d ∈ ds → ∀ {v : V}, Rp K G v d → ∃ d', Rp K G' v d' ∧ Ch es d d') → RpAll K G ys ds → ∃ ds', RpAll K G' ys ds' ∧ ds'.length = ds.length ∧ ∀ (i : Nat) (d d' : D), ds[i]? = some d → ds'[i]? = some d' → Ch es d d' := by
          intro ys ds f r
          induction ds generalizing ys with
          | nil => cases r; exact ⟨[], .nil, rfl, by simp⟩
          | cons d ds ih2 =>
            cases r with
            | cons r1 r2 =>
              obtain ⟨d', a1, a2⟩ := f d (by simp) r1
              obtain ⟨ds', b1, b2, b3⟩ := ih2 (fun d hd => f d (by simp [hd])) r2
              refine ⟨d' :: ds', .cons a1 b1, by simp [b2], fun i x y => ?_⟩
              cases i with
              | zero => intro h1 h2; simp at h1 h2; subst h1 h2; exact a2
              | succ i => intro h1 h2; exact b3 i x y (by simpa using h1) (by simpa using h2)
        obtain ⟨ds', a1, a2, a3⟩ := all ih rr
        exact ⟨.list ds', .lst (hb _ _ e q) a1, .lst a2 a3⟩
/-- a frame whose slots hold plain things, and the dice at p in slot 0 -/
structure Fr (p : Addr) (ρ : Env) : Prop where
  dice : ∃ a b c : Int, ρ[0]? = some (some (.ow (.par p (.lst [.int a, .int b, .int c]))))
  rest : ∀ (i : Nat) (sv : SV), ρ[i]? = some (some sv) → i ≠ 0 → ∃ d, sv = .im d ∧ PL d
structure Qs (K : PySem.W.Frag) (T B : Addr → Prop) (p : Addr) (ρ : Env) (σ : L2.St) (H : Hp) : Prop where
  rs : RS K T ρ σ H
  fr : Fr p ρ
  lists : ∀ a xs, ¬ T a → a ≠ p → H a = some (.lst xs) → B a
  new : ∀ a, H a = none → B a
theorem Qs.at0 (q : Qs K T B p ρ σ H) : σ[0]? = some (some (.ref p)) := by
  obtain ⟨a, b, c, h⟩ := q.fr.dice
  obtain ⟨x, o, h1, _⟩ := q.rs.ow 0 _ h
  rw [h1, q.rs.tag 0 p _ x h h1]
theorem Qs.own (q : Qs K T B p ρ σ H) {a : Addr} : Own ρ σ a ↔ a = p := by
  constructor
  · rintro ⟨i, m, h1, h2⟩
    by_cases e : i = 0
    · subst e; rw [q.at0] at h2; cases h2; rfl
    · obtain ⟨d, z, _⟩ := q.fr.rest i _ h1 e
      cases z
  · rintro rfl
    obtain ⟨a, b, c, h⟩ := q.fr.dice
    exact ⟨0, _, h, q.at0⟩
theorem Qs.hd (q : Qs K T B p ρ σ H) {a : Addr} : Hd T ρ σ a ↔ T a ∨ a = p := by unfold Hd; rw [q.own]
/-- steps of the ordinary kind -/
theorem Qs.step (q : Qs K T B p ρ σ H) (r : RS K T ρ1 σ1 H1) (po : Po ρ σ H ρ1 σ1 H1) (f : Fr p ρ1) : Qs K T B p ρ1 σ1 H1 := by
  refine ⟨r, f, fun a xs t n h => ?_, fun a h => ?_⟩
  · cases w : H a with
    | none => exact q.new a w
    | some o =>
      have := po.keep a o (fun z => n (q.own.1 z)) w
      rw [h] at this; cases this
      exact q.lists a xs t n w
  · cases w : H a with
    | none => exact q.new a w
    | some o => exact absurd h (po.dom a (by rw [w]; simp))
structure Kp (B : Addr → Prop) (p : Addr) (H H' : Hp) : Prop where
  keep : ∀ a o, a ≠ p → ¬ B a → H a = some o → H' a = some o
  dom : ∀ a, H a ≠ none → H' a ≠ none
theorem Kp.refl {B : Addr → Prop} {p : Addr} : Kp B p H H := ⟨fun _ _ _ _ h => h, fun _ h => h⟩
theorem Kp.trans {B : Addr → Prop} {p : Addr} {H2 : Hp} (a : Kp B p H H1) (b : Kp B p H1 H2) : Kp B p H H2 := ⟨fun x o n m h => b.keep x o n m (a.keep x o n m h), fun x h => b.dom x (a.dom x h)⟩
theorem Qs.kp (q : Qs K T B p ρ σ H) (po : Po ρ σ H ρ1 σ1 H1) : Kp B p H H1 := ⟨fun a o n _ h => po.keep a o (fun z => n (q.own.1 z)) h, po.dom⟩
structure EndB (K : PySem.W.Frag) (T B : Addr → Prop) (p : Addr) (H : Hp) (E : DEnds) (D : Ends) : Prop where
  nx : ∀ ρ' σ' H', Qs K T B p ρ' σ' H' → Kp B p H H' → E.nx ρ' → D.nx σ' H'
  rt : ∀ d ρ' σ' v H', Qs K T B p ρ' σ' H' → Kp B p H H' → Rp K (hide (Hd T ρ' σ') H') v d → E.rt d ρ' → D.rt v H'
theorem EndB.step {E : DEnds} {D : Ends} (e : EndB K T B p H E D) (k : Kp B p H H1) : EndB K T B p H1 E D := ⟨fun a b c q k2 => e.nx a b c q (k.trans k2), fun a b c d f q k2 => e.rt a b c d f q (k.trans k2)⟩
theorem list_choose {α β : Type} : ∀ (l : List α) (R : Nat → α → β → Prop), (∀ i x, l[i]? = some x → ∃ y, R i x y) → ∃ l' : List β, l'.length = l.length ∧ ∀ i x, l[i]? = some x → ∃ y, l'[i]? = some y ∧ R i x y
  | [], _, _ => ⟨[], rfl, by simp⟩
  | a :: l, R, h => by
    obtain ⟨y, hy⟩ := h 0 a rfl
    obtain ⟨l', h1, h2⟩ := list_choose l (fun i => R (i + 1)) fun i x e => h (i + 1) x (by simpa using e)
    refine ⟨y :: l', by simp [h1], fun i x e => ?_⟩
    cases i with
    | zero => simp at e; subst e; exact ⟨y, rfl, hy⟩
    | succ i => obtain ⟨z, z1, z2⟩ := h2 i x (by simpa using e); exact ⟨z, by simpa using z1, z2⟩
structure ChE (R : D → D → Prop) (ρ ρ3 : Env) : Prop where
  len : ρ3.length = ρ.length
  at0 : ρ3[0]? = ρ[0]?
  im : ∀ (i : Nat) (d : D), ρ[i]? = some (some (.im d)) → ∃ d', ρ3[i]? = some (some (.im d')) ∧ R d d'
  no : ∀ (i : Nat), ρ[i]? = some none → ρ3[i]? = some none
theorem Ch.pl {es : List D} (ne : ∀ d, d ∈ es → NL d) {d d' : D} (p : PL d) (c : Ch es d d') : PL d' := by
  induction p generalizing d' with
  | nl n => cases c with
    | nl _ => exact .nl n
    | repl _ _ => cases n
    | lst _ _ => cases n
  | @lst ds _ ih => cases c with
    | nl n => cases n
    | repl _ _ => exact .lst fun d hd => .nl (ne d hd)
    | @lst _ ds' l h =>
      refine .lst fun d hd => ?_
      obtain ⟨i, hi⟩ := List.mem_iff_getElem?.mp hd
      have il : i < ds.length := by rw [← l]; exact (List.getElem?_eq_some_iff.mp hi).1
      exact ih ds[i] (List.getElem_mem il) (h i _ _ (List.getElem?_eq_getElem il) hi)
theorem Qs.store (q : Qs K T B p ρ σ H) {b : Addr} {xs us : List V} {R : D → D → Prop} (hl : H b = some (.lst xs)) (nt : ¬ T b) (np : b ≠ p)
    (hch : ∀ d : D, PL d → ∀ v : V, Rp K (hide (Hd T ρ σ) H) v d → ∃ d', Rp K (hide (Hd T ρ σ) (upd H b (.lst us))) v d' ∧ R d d' ∧ PL d') :
    ∃ ρ3, Qs K T B p ρ3 σ (upd H b (.lst us)) ∧ Kp B p H (upd H b (.lst us)) ∧ ChE R ρ ρ3 ∧ Hd T ρ3 σ = Hd T ρ σ := by
  have nb : ¬ Hd T ρ σ b := fun w => (q.hd.1 w).elim nt np
  have hb : ∀ a o, a ≠ b → hide (Hd T ρ σ) H a = some o → hide (Hd T ρ σ) (upd H b (.lst us)) a = some o := fun a o n w => by
    obtain ⟨w1, w2⟩ := hide_some.1 w
    exact hide_some.2 ⟨w1, by rw [upd_ne n]; exact w2⟩
  have g1 : hide (Hd T ρ σ) H b = some (.lst xs) := hide_some.2 ⟨nb, hl⟩
  have g2 : hide (Hd T ρ σ) (upd H b (.lst us)) b = some (.lst us) := hide_some.2 ⟨nb, upd_same⟩
  obtain ⟨ρ3, l3, h3⟩ := list_choose ρ (fun i x y => (i = 0 → y = x) ∧ (i ≠ 0 → (∀ d, x = some (.im d) → ∃ d' v, y = some (.im d') ∧ (R d d' ∧ PL d') ∧ σ[i]? = some (some v) ∧ Rp K (hide (Hd T ρ σ) (upd H b (.lst us))) v d') ∧ (x = none → y = none))) (fun i x e => by
    by_cases z : i = 0
    · exact ⟨x, fun _ => rfl, fun n => absurd z n⟩
    · cases x with
      | none => exact ⟨none, fun w => absurd w z, fun _ => ⟨fun d w => (by cases w), fun _ => rfl⟩⟩
      | some sv =>
        obtain ⟨d, rfl, pd⟩ := q.fr.rest i sv e z
        obtain ⟨v, hv, rv⟩ := q.rs.im i d e
        obtain ⟨d', r', c⟩ := hch d pd v rv
        exact ⟨some (.im d'), fun w => absurd w z, fun _ => ⟨fun d2 w => (by cases w; exact ⟨d', v, rfl, c, hv, r'⟩), fun w => (by cases w)⟩⟩)
  have e0 : ρ3[0]? = ρ[0]? := by
    obtain ⟨x, y, z, w⟩ := q.fr.dice
    obtain ⟨u, u1, u2, _⟩ := h3 0 _ w
    rw [u1, w, u2 rfl]
  have back : ∀ (i : Nat) (sv : SV), ρ3[i]? = some (some sv) → i ≠ 0 → ∃ d d' v, ρ[i]? = some (some (.im d)) ∧ sv = .im d' ∧ (R d d' ∧ PL d') ∧ σ[i]? = some (some v) ∧ Rp K (hide (Hd T ρ σ) (upd H b (.lst us))) v d' := fun i sv w z => by
    have il : i < ρ.length := by rw [← l3]; exact (List.getElem?_eq_some_iff.mp w).1
    obtain ⟨y, y1, _, y2⟩ := h3 i _ (List.getElem?_eq_getElem il)
    rw [w] at y1; cases y1
    obtain ⟨k1, k2⟩ := y2 z
    cases ex : ρ[i] with
    | none => have := k2 ex; cases this
    | some sv2 =>
      obtain ⟨d, rfl, _⟩ := q.fr.rest i sv2 (by rw [List.getElem?_eq_getElem il, ex]) z
      obtain ⟨d', v, e1, e2, e3, e4⟩ := k1 d ex
      cases e1
      exact ⟨d, d', v, by rw [List.getElem?_eq_getElem il, ex], rfl, e2, e3, e4⟩
  have fr3 : Fr p ρ3 := ⟨by rw [e0]; exact q.fr.dice, fun i sv w z => by
    obtain ⟨d, d', v, a1, rfl, a3, _⟩ := back i sv w z
    exact ⟨d', rfl, a3.2⟩⟩
  have own3 : ∀ a, Own ρ3 σ a ↔ a = p := fun a => by
    constructor
    · rintro ⟨i, m, h1, h2⟩
      by_cases e : i = 0
      · subst e; rw [q.at0] at h2; cases h2; rfl
      · obtain ⟨d, z, _⟩ := fr3.rest i _ h1 e
        cases z
    · rintro rfl
      obtain ⟨x, y, z, w⟩ := fr3.dice
      exact ⟨0, _, w, q.at0⟩
  have hdE : Hd T ρ3 σ = Hd T ρ σ := by
    funext a
    apply propext
    unfold Hd
    rw [own3, q.own]
  have rs3 : RS K T ρ3 σ (upd H b (.lst us)) := by
    refine ⟨by rw [l3, q.rs.len], fun i d w => ?_, fun i m w => ?_, fun i j m m' a w1 w2 w3 w4 => ?_, fun a t w => ?_, fun a t => ?_, fun i x m a w1 w2 => ?_⟩
    · by_cases z : i = 0
      · subst z; rw [e0] at w
        obtain ⟨x, y, z, w'⟩ := q.fr.dice
        rw [w] at w'; cases w'
      · obtain ⟨d1, d', v, a1, a2, a3, a4, a5⟩ := back i _ w z
        cases a2
        exact ⟨v, a4, by rw [hdE]; exact a5⟩
    · by_cases z : i = 0
      · subst z
        obtain ⟨x, y, z, w'⟩ := fr3.dice
        rw [w] at w'; cases w'
        rw [e0] at w
        obtain ⟨a, o, b1, b2, b3⟩ := q.rs.ow 0 _ w
        have ap : a = p := by have := b1.symm.trans q.at0; cases this; rfl
        subst ap
        refine ⟨a, o, b1, by rw [upd_ne np.symm]; exact b2, ?_⟩
        rw [hdE]
        cases o with
        | lst vs => exact nls_keep hb g1 (fun d hd => by simp at hd; rcases hd with rfl | rfl | rfl <;> exact .int _) b3
        | _ => exact False.elim b3
      · obtain ⟨d, z, _⟩ := fr3.rest i _ w z
        cases z
    · have : ∀ (i : Nat) (m : MO), ρ3[i]? = some (some (.ow m)) → i = 0 := fun i m w => by
        by_cases z : i = 0
        · exact z
        · obtain ⟨d, z, _⟩ := fr3.rest i _ w z
          cases z
      rw [this i m w1, this j m' w2]
    · rw [own3] at w
      exact q.rs.dis a t (q.own.2 w)
    · by_cases e : a = b
      · subst e; exact absurd t nt
      · rw [upd_ne e]; exact q.rs.dom a t
    · by_cases z : i = 0
      · subst z; rw [e0] at w1; exact q.rs.tag 0 x m a w1 w2
      · obtain ⟨d, z, _⟩ := fr3.rest i _ w1 z
        cases z
  refine ⟨ρ3, ⟨rs3, fr3, fun a ys t n w => ?_, fun a w => ?_⟩, ⟨fun a o n m w => ?_, fun a w => ?_⟩, ⟨l3, e0, fun i d w => ?_, fun i w => ?_⟩, hdE⟩
  · by_cases e : a = b
    · subst e; exact q.lists a _ t n hl
    · rw [upd_ne e] at w; exact q.lists a _ t n w
  · by_cases e : a = b
    · subst e; rw [upd_same] at w; cases w
    · rw [upd_ne e] at w; exact q.new a w
  · by_cases e : a = b
    · subst e; exact absurd (q.lists a _ nt np hl) m
    · rw [upd_ne e]; exact w
  · by_cases e : a = b
    · subst e; rw [upd_same]; simp
    · rw [upd_ne e]; exact w
  · by_cases z : i = 0
    · subst z
      obtain ⟨x, y, z, w'⟩ := q.fr.dice
      rw [w] at w'; cases w'
    · obtain ⟨y, y1, _, y2⟩ := h3 i _ w
      obtain ⟨d', v, e1, e2, _⟩ := (y2 z).1 d rfl
      exact ⟨d', by rw [y1, e1], e2.1⟩
  · by_cases z : i = 0
    · subst z
      obtain ⟨x, y, z, w'⟩ := q.fr.dice
      rw [w] at w'; cases w'
    · obtain ⟨y, y1, _, y2⟩ := h3 i _ w
      rw [y1, (y2 z).2 rfl]
theorem hide_upd {O : Addr → Prop} {b : Addr} {o : HO} (hb : ∀ a u, a ≠ b → hide O H a = some u → hide O (upd H b o) a = some u := fun a u n w => hide_some.2 ⟨(hide_some.1 w).1, by rw [upd_ne n]; exact (hide_some.1 w).2⟩) : ∀ a u, a ≠ b → hide O H a = some u → hide O (upd H b o) a = some u := hb
/-- an item of an inner list is stored -/
theorem Qs.store1 (q : Qs K T B p ρ σ H) {i m : Nat} {v : V} {d : D} {ds : List D} (hi : ρ[i]? = some (some (.im (.list ds)))) (n0 : ∀ x, x ∈ ds → NL x) (nd : NL d) (rv : Rp K (hide (Hd T ρ σ) H) v d) :
    ∃ b xs ρ3, σ[i]? = some (some (.ref b)) ∧ H b = some (.lst xs) ∧ xs.length = ds.length ∧ Qs K T B p ρ3 σ (upd H b (.lst (xs.set m v))) ∧ Kp B p H (upd H b (.lst (xs.set m v))) ∧ ChE (Ch (ds.set m d)) ρ ρ3 ∧
      ∀ u e, NL e → Rp K (hide (Hd T ρ σ) H) u e → Rp K (hide (Hd T ρ3 σ) (upd H b (.lst (xs.set m v)))) u e := by
  obtain ⟨w, h1, h2⟩ := q.rs.im i _ hi
  cases h2 with
  | @lst b xs _ g1 rr =>
    obtain ⟨nb, hl⟩ := hide_some.1 g1
    have nt : ¬ T b := fun z => nb (q.hd.2 (.inl z))
    have np : b ≠ p := fun z => nb (q.hd.2 (.inr z))
    have g2 : hide (Hd T ρ σ) (upd H b (.lst (xs.set m v))) b = some (.lst (xs.set m v)) := hide_some.2 ⟨nb, upd_same⟩
    have ne : ∀ x, x ∈ ds.set m d → NL x := fun x hx => (List.mem_or_eq_of_mem_set hx).elim (n0 x) fun z => by rw [z]; exact nd
    obtain ⟨ρ3, a1, a2, a3, a4⟩ := q.store (us := xs.set m v) (R := Ch (ds.set m d)) hl nt np fun _ pd _ r => by
      obtain ⟨d', r', c⟩ := pl_change (hide_upd) g1 g2 rr n0 (rr.set m rv) ne (by simp) pd r
      exact ⟨d', r', c, c.pl ne pd⟩
    exact ⟨b, xs, ρ3, h1, hl, rr.length, a1, a2, a3, fun u e n r => by rw [a4]; exact nl_keep hide_upd g1 n r⟩
/-! the same of a list of lists -/
def L1 (d : D) : Prop := ∃ es, d = .list es ∧ ∀ e, e ∈ es → NL e
inductive Ch2 (es : List D) : D → D → Prop
  | nl {d : D} : NL d → Ch2 es d d
  | l1 {d : D} : L1 d → Ch2 es d d
  | repl {ds : List D} : es.length = ds.length → (∃ d, d ∈ ds ∧ ¬ notL d) → Ch2 es (.list ds) (.list es)
  | lst {ds ds' : List D} : (∃ d, d ∈ ds ∧ ¬ notL d) → ds'.length = ds.length → (∀ (i : Nat) (d d' : D), ds[i]? = some d → ds'[i]? = some d' → Ch2 es d d') → Ch2 es (.list ds) (.list ds')
theorem list_same {v : V} {d e : D} (h : Rp K G v d) (n : ¬ notL d) (h2 : Rp K G v e) (pe : PL e) : ¬ notL e := by
  cases h with
  | lst q _ =>
    cases h2 with
    | lst _ _ => exact id
    | tup p _ => rw [q] at p; cases p
    | dct _ _ z => subst z; cases pe with | nl n => cases n
    | frz _ _ => cases pe with | nl n => cases n
  | _ => exact absurd trivial n
theorem pl_nl {d : D} (p : PL d) (n : notL d) : NL d := by
  cases p with
  | nl h => exact h
  | lst _ => exact False.elim n
theorem list_mem : ∀ {vs : List V} {ds es : List D}, RpAll K G vs ds → (∃ d, d ∈ ds ∧ ¬ notL d) → RpAll K G vs es → (∀ e, e ∈ es → PL e) → ∃ e, e ∈ es ∧ ¬ notL e
  | _, _, _, .nil, h, .nil, _ => by simp at h
  | _, _, _, .cons h r, w, .cons h2 r2, p => by
    obtain ⟨d, hd, n⟩ := w
    rcases List.mem_cons.mp hd with rfl | hd
    · exact ⟨_, by simp, list_same h n h2 (p _ (by simp))⟩
    · obtain ⟨e, he, n'⟩ := list_mem r ⟨d, hd, n⟩ r2 fun e he => p e (by simp [he])
      exact ⟨e, by simp [he], n'⟩
/-- an inner list keeps its place -/
theorem l1_keep {b : Addr} {xs : List V} {ds0 : List D} (hb : ∀ a o, a ≠ b → G a = some o → G' a = some o) (hl : G b = some (.lst xs)) (h0 : RpAll K G xs ds0) (m0 : ∃ d, d ∈ ds0 ∧ ¬ notL d) {v : V} {d : D} (l : L1 d) (r : Rp K G v d) : Rp K G' v d := by
  obtain ⟨es, rfl, ne⟩ := l
  cases r with
  | @lst a ys _ q rr =>
    have ab : a ≠ b := fun z => by
      subst z
      rw [hl] at q; cases q
      obtain ⟨e, he, n⟩ := list_mem h0 m0 rr fun e he => .nl (ne e he)
      exact n (ne e he).notL
    exact .lst (hb _ _ ab q) (nls_keep hb hl ne rr)
theorem l1s_keep {b : Addr} {xs : List V} {ds0 : List D} (hb : ∀ a o, a ≠ b → G a = some o → G' a = some o) (hl : G b = some (.lst xs)) (h0 : RpAll K G xs ds0) (m0 : ∃ d, d ∈ ds0 ∧ ¬ notL d) : ∀ {vs : List V} {es : List D}, (∀ e, e ∈ es → L1 e) → RpAll K G vs es → RpAll K G' vs es
  | _, _, _, .nil => .nil
  | _, _, n, .cons h r => .cons (l1_keep hb hl h0 m0 (n _ (by simp)) h) (l1s_keep hb hl h0 m0 (fun e he => n e (by simp [he])) r)
theorem pl_change2 {b : Addr} {xs us : List V} {ds0 es : List D} (hb : ∀ a o, a ≠ b → G a = some o → G' a = some o) (hl : G b = some (.lst xs)) (hl' : G' b = some (.lst us)) (h0 : RpAll K G xs ds0) (m0 : ∃ d, d ∈ ds0 ∧ ¬ notL d) (hu : RpAll K G us es) (ne : ∀ d, d ∈ es → L1 d) (le : us.length = xs.length) :
    ∀ {d : D}, PL d → ∀ {v : V}, Rp K G v d → ∃ d', Rp K G' v d' ∧ Ch2 es d d' ∧ PL d' := by
  intro d p
  induction p with
  | nl n => exact fun r => ⟨_, nl_keep hb hl n r, .nl n, .nl n⟩
  | @lst ds hp ih =>
    intro v r
    cases r with
    | @lst a ys _ q rr =>
      have pes : ∀ d, d ∈ es → PL d := fun d hd => by
        obtain ⟨l, rfl, hl⟩ := ne d hd
        exact .lst fun e he => .nl (hl e he)
      by_cases e : a = b
      · subst e
        rw [hl] at q; cases q
        exact ⟨.list es, .lst hl' (l1s_keep hb hl h0 m0 ne hu), .repl (by rw [← hu.length, le, rr.length]) (list_mem h0 m0 rr hp), .lst pes⟩
      · by_cases hm : ∃ d, d ∈ ds ∧ ¬ notL d
        · have all : ∀ {ys : List V} {ds : List D}, (∀ d, d ∈ ds → ∀ {v : V}, Rp K G v d → ∃ d', Rp K G' v d' ∧ Ch2 es d d' ∧ PL d') → RpAll K G ys ds → ∃ ds', RpAll K G' ys ds' ∧ ds'.length = ds.length ∧ (∀ (i : Nat) (d d' : D), ds[i]? = some d → ds'[i]? = some d' → Ch2 es d d') ∧ ∀ d, d ∈ ds' → PL d := by
            intro ys ds f r
            induction ds generalizing ys with
            | nil => cases r; exact ⟨[], .nil, rfl, by simp, by simp⟩
            | cons d ds ih2 =>
              cases r with
              | cons r1 r2 =>
                obtain ⟨d', a1, a2, a3⟩ := f d (by simp) r1
                obtain ⟨ds', b1, b2, b3, b4⟩ := ih2 (fun d hd => f d (by simp [hd])) r2
                refine ⟨d' :: ds', .cons a1 b1, by simp [b2], fun i x y => ?_, fun x hx => ?_⟩
                · cases i with
                  | zero => intro h1 h2; simp at h1 h2; subst h1 h2; exact a2
                  | succ i => intro h1 h2; exact b3 i x y (by simpa using h1) (by simpa using h2)
                · rcases List.mem_cons.mp hx with rfl | hx
                  · exact a3
                  · exact b4 x hx
          obtain ⟨ds', a1, a2, a3, a4⟩ := all ih rr
          exact ⟨.list ds', .lst (hb _ _ e q) a1, .lst hm a2 a3, .lst a4⟩
        · have nds : ∀ d, d ∈ ds → NL d := fun d hd => pl_nl (hp d hd) (Classical.byContradiction fun n => hm ⟨d, hd, n⟩)
          exact ⟨.list ds, .lst (hb _ _ e q) (nls_keep hb hl nds rr), .l1 ⟨ds, rfl, nds⟩, .lst hp⟩
theorem Qs.store2 (q : Qs K T B p ρ σ H) {i m : Nat} {v : V} {d : D} {ds : List D} (hi : ρ[i]? = some (some (.im (.list ds)))) (h0 : ∀ x, x ∈ ds → L1 x) (m0 : ds ≠ []) (nd : L1 d) (rv : Rp K (hide (Hd T ρ σ) H) v d) :
    ∃ b xs ρ3, σ[i]? = some (some (.ref b)) ∧ H b = some (.lst xs) ∧ xs.length = ds.length ∧ Qs K T B p ρ3 σ (upd H b (.lst (xs.set m v))) ∧ Kp B p H (upd H b (.lst (xs.set m v))) ∧ ChE (Ch2 (ds.set m d)) ρ ρ3 ∧
      ∀ u e, L1 e → Rp K (hide (Hd T ρ σ) H) u e → Rp K (hide (Hd T ρ3 σ) (upd H b (.lst (xs.set m v)))) u e := by
  obtain ⟨w, h1, h2⟩ := q.rs.im i _ hi
  cases h2 with
  | @lst b xs _ g1 rr =>
    obtain ⟨nb, hl⟩ := hide_some.1 g1
    have nt : ¬ T b := fun z => nb (q.hd.2 (.inl z))
    have np : b ≠ p := fun z => nb (q.hd.2 (.inr z))
    have g2 : hide (Hd T ρ σ) (upd H b (.lst (xs.set m v))) b = some (.lst (xs.set m v)) := hide_some.2 ⟨nb, upd_same⟩
    have ne : ∀ x, x ∈ ds.set m d → L1 x := fun x hx => (List.mem_or_eq_of_mem_set hx).elim (h0 x) fun z => by rw [z]; exact nd
    have mm : ∃ d, d ∈ ds ∧ ¬ notL d := by
      cases ds with
      | nil => exact absurd rfl m0
      | cons x l => obtain ⟨es, rfl, _⟩ := h0 x (by simp); exact ⟨.list es, by simp, id⟩
    obtain ⟨ρ3, a1, a2, a3, a4⟩ := q.store (us := xs.set m v) (R := Ch2 (ds.set m d)) hl nt np fun _ pd _ r => pl_change2 hide_upd g1 g2 rr mm (rr.set m rv) ne (by simp) pd r
    exact ⟨b, xs, ρ3, h1, hl, rr.length, a1, a2, a3, fun u e n r => by rw [a4]; exact l1_keep hide_upd g1 rr mm n r⟩
end
structure JB1 (X : Cx) (st : Stmt) (f : DS) : Prop where
  ex : ∃ t, PS X st t ∧ ∀ (T B : Addr → Prop) (p : Addr) (ρ : Env) (σ : L2.St) (H : Hp) (E : DEnds) (D : Ends), Qs X.K T B p ρ σ H → f E ρ → EndB X.K T B p H E D → t D σ H
structure JB (X : Cx) (st : List Stmt) (f : DS) : Prop where
  ex : ∃ t, PSs X st t ∧ ∀ (T B : Addr → Prop) (p : Addr) (ρ : Env) (σ : L2.St) (H : Hp) (E : DEnds) (D : Ends), Qs X.K T B p ρ σ H → f E ρ → EndB X.K T B p H E D → t D σ H
/-- a step of the ordinary kind: the frame stays plain -/
def sB (f : DS) : DS := fun E ρ => ∀ p, Fr p ρ → f { nx := fun ρ' => Fr p ρ' ∧ E.nx ρ', rt := fun d ρ' => Fr p ρ' ∧ E.rt d ρ' } ρ
def sIfB (c : DT) (f g : DS) : DS := fun E ρ => ∀ p, Fr p ρ → c ρ fun b ρ1 => Fr p ρ1 ∧ if b = true then f E ρ1 else g E ρ1
def gSubB (i : Nat) (fk : DE) : DG := fun d ρ QD => ∀ p, Fr p ρ → NL d ∧ (∃ d0, ρ[i]? = some (some (.im d0))) ∧ fk ρ fun kk ρ2 => Fr p ρ2 ∧ ∃ ds j m, ρ2[i]? = some (some (.im (.list ds))) ∧ kk = .int j ∧ ixN ds.length j = some m ∧ (∀ x, x ∈ ds → NL x) ∧ ∀ ρ3, ChE (Ch (ds.set m d)) ρ2 ρ3 → QD ρ3
def gSubB2 (i : Nat) (fk : DE) : DG := fun d ρ QD => ∀ p, Fr p ρ → L1 d ∧ (∃ d0, ρ[i]? = some (some (.im d0))) ∧ fk ρ fun kk ρ2 => Fr p ρ2 ∧ ∃ ds j m, ρ2[i]? = some (some (.im (.list ds))) ∧ kk = .int j ∧ ixN ds.length j = some m ∧ (∀ x, x ∈ ds → L1 x) ∧ ds ≠ [] ∧ ∀ ρ3, ChE (Ch2 (ds.set m d)) ρ2 ρ3 → QD ρ3
def sAsgB (f : DE) (g : DG) : DS := fun E ρ => ∀ p, Fr p ρ → f ρ fun d ρ1 => Fr p ρ1 ∧ g d ρ1 E.nx
section
variable {X : Cx} {V : D → Prop} {a b c e : Expr} {es : List Expr} {fa fb fc : DE} {pos ps px : Pos} {x y : Str} {st : Stmt} {sts : List Stmt} {f g : DS}
theorem jb_js (h : JS X st f) : JB1 X st (sB f) := by
  obtain ⟨t, pt, k⟩ := h.ex
  refine ⟨t, pt, fun T B p ρ σ H E D q h e => k T ρ σ H _ _ q.rs (h p q.fr) ⟨fun ρ' σ' H' r po h => ?_, fun d ρ' σ' v H' r po rv h => ?_, fun _ _ _ _ _ h => h.elim, fun _ _ _ _ _ h => h.elim⟩⟩
  · exact e.nx _ _ _ (q.step r po h.1) (q.kp po) h.2
  · exact e.rt _ _ _ _ _ (q.step r po h.1) (q.kp po) rv h.2
theorem jb_nil : JB X [] sNx := ⟨tNext, pss_nil, fun T B p ρ σ H E D q h e => e.nx _ _ _ q .refl h⟩
theorem jb_cons (h1 : JB1 X st f) (h2 : JB X sts g) : JB X (st :: sts) (sSeq f g) := by
  obtain ⟨t1, p1, k1⟩ := h1.ex
  obtain ⟨t2, p2, k2⟩ := h2.ex
  exact ⟨_, pss_cons p1 p2, fun T B p ρ σ H E D q h e => k1 T B p ρ σ H _ _ q h ⟨fun ρ' σ' H' q' k h => k2 T B p ρ' σ' H' _ _ q' h (e.step k), e.rt⟩⟩
theorem jb_one (h1 : JB1 X st f) : JB X [st] f := by
  obtain ⟨t1, p1, k1⟩ := h1.ex
  exact ⟨_, pss_cons p1 pss_nil, fun T B p ρ σ H E D q h e => k1 T B p ρ σ H E _ q h ⟨fun ρ' σ' H' q' k h => e.nx _ _ _ q' k h, e.rt⟩⟩
theorem jb_if {cc : DT} {sa sb : List Stmt} (hc : JT X c cc) (h1 : JB X sa f) (h2 : JB X sb g) : JB1 X (.If c sa sb pos) (sIfB cc f g) := by
  obtain ⟨tc, pc, kc⟩ := hc.ex
  obtain ⟨t1, p1, k1⟩ := h1.ex
  obtain ⟨t2, p2, k2⟩ := h2.ex
  refine ⟨_, ps_if pc p1 p2, fun T B p ρ σ H E D q h e => kc T ρ σ H _ _ q.rs (h p q.fr) fun b ρ1 H1 r1 po h => ?_⟩
  have q1 := q.step r1 po h.1
  cases b with
  | true => exact k1 T B p ρ1 σ H1 E D q1 h.2 (e.step (q.kp po))
  | false => exact k2 T B p ρ1 σ H1 E D q1 h.2 (e.step (q.kp po))
structure JGB (X : Cx) (V : D → Prop) (tg : Expr) (g : DG) : Prop where
  ex : ∃ t, PG X tg t ∧ ∀ (T B : Addr → Prop) (p : Addr) (ρ : Env) (σ : L2.St) (H : Hp) (v : L2.V) (d : D) (QD : Env → Prop) (Q : L2.St → Hp → Prop), Qs X.K T B p ρ σ H → Rp X.K (hide (Hd T ρ σ) H) v d → g d ρ QD →
    (∀ ρ' H', Qs X.K T B p ρ' σ H' → Kp B p H H' → (∀ u e, V e → Rp X.K (hide (Hd T ρ σ) H) u e → Rp X.K (hide (Hd T ρ' σ) H') u e) → QD ρ' → Q σ H') → t v σ H Q
structure JGBs (X : Cx) (V : D → Prop) (tgs : List Expr) (g : List D → Env → (Env → Prop) → Prop) : Prop where
  ex : ∃ t, PGs X tgs t ∧ ∀ (T B : Addr → Prop) (p : Addr) (ρ : Env) (σ : L2.St) (H : Hp) (us : List L2.V) (ds : List D) (QD : Env → Prop) (Q : L2.St → Hp → Prop), Qs X.K T B p ρ σ H → RpAll X.K (hide (Hd T ρ σ) H) us ds → (∀ d, d ∈ ds → V d) → g ds ρ QD →
    (∀ ρ' H', Qs X.K T B p ρ' σ H' → Kp B p H H' → QD ρ' → Q σ H') → t us σ H Q
theorem jgb_sub {i : Nat} {f1 : DE} (hN : X.N[i]? = some x) (hv : Vis X.env.scope x) (hi : JE X b f1) (hd : (x == ("__debug__" : Str)) = false := by decide) (hcd : (x == ("__classdict__" : Str)) = false := by decide)
    (ha : ∀ v, assign (.Subscript (.Name x px) b ps) X.env v = (do
      let ov ← holding [v] (eval (.Name x px) X.env); let iv ← holding [v, ov] (eval b X.env); standAt ps; holding [v, ov, iv] (setItem ov iv v); release [v, ov, iv] []) := by intro _; rfl) : JGB X NL (.Subscript (.Name x px) b ps) (gSubB i f1) := by
  obtain ⟨t1, p1, k1⟩ := hi.ex
  refine ⟨_, pg_sub (pe_var hN hv hd hcd) p1 set_list ha, fun T B p ρ σ H v d QD Q q rv h k => ?_⟩
  obtain ⟨nd, ⟨d0, h0⟩, h⟩ := h p q.fr
  obtain ⟨w, hw, _⟩ := q.rs.im i d0 h0
  refine ⟨_, hw, k1 T ρ σ H _ _ q.rs h fun kk ρ2 z H2 r2 po2 v2 h => ?_⟩
  obtain ⟨f2, ds, j, m, e1, rfl, e2, n0, h⟩ := h
  have q2 := q.step r2 po2 f2
  obtain ⟨l, xs, ρ3, a1, a2, a3, a4, a5, a6, a7⟩ := q2.store1 (m := m) e1 n0 nd (rv.mono po2.fz)
  have := hw.symm.trans a1
  cases this
  cases v2
  exact ⟨l, xs, j, m, rfl, rfl, a2, by rw [a3]; exact e2, k ρ3 _ a4 ((q.kp po2).trans a5) (fun u e ne ru => a7 u e ne (ru.mono po2.fz)) (h ρ3 a6)⟩
theorem jgb_sub2 {i : Nat} {f1 : DE} (hN : X.N[i]? = some x) (hv : Vis X.env.scope x) (hi : JE X b f1) (hd : (x == ("__debug__" : Str)) = false := by decide) (hcd : (x == ("__classdict__" : Str)) = false := by decide)
    (ha : ∀ v, assign (.Subscript (.Name x px) b ps) X.env v = (do
      let ov ← holding [v] (eval (.Name x px) X.env); let iv ← holding [v, ov] (eval b X.env); standAt ps; holding [v, ov, iv] (setItem ov iv v); release [v, ov, iv] []) := by intro _; rfl) : JGB X L1 (.Subscript (.Name x px) b ps) (gSubB2 i f1) := by
  obtain ⟨t1, p1, k1⟩ := hi.ex
  refine ⟨_, pg_sub (pe_var hN hv hd hcd) p1 set_list ha, fun T B p ρ σ H v d QD Q q rv h k => ?_⟩
  obtain ⟨nd, ⟨d0, h0⟩, h⟩ := h p q.fr
  obtain ⟨w, hw, _⟩ := q.rs.im i d0 h0
  refine ⟨_, hw, k1 T ρ σ H _ _ q.rs h fun kk ρ2 z H2 r2 po2 v2 h => ?_⟩
  obtain ⟨f2, ds, j, m, e1, rfl, e2, n0, m0, h⟩ := h
  have q2 := q.step r2 po2 f2
  obtain ⟨l, xs, ρ3, a1, a2, a3, a4, a5, a6, a7⟩ := q2.store2 (m := m) e1 n0 m0 nd (rv.mono po2.fz)
  have := hw.symm.trans a1
  cases this
  cases v2
  exact ⟨l, xs, j, m, rfl, rfl, a2, by rw [a3]; exact e2, k ρ3 _ a4 ((q.kp po2).trans a5) (fun u e ne ru => a7 u e ne (ru.mono po2.fz)) (h ρ3 a6)⟩
theorem jgbs_nil : JGBs X V [] gsNil := ⟨gNil, pgs_nil, fun T B p ρ σ H us ds QD Q q rv _ h k => by
  obtain ⟨rfl, h⟩ := h
  cases rv
  exact ⟨rfl, k _ _ q .refl h⟩⟩
theorem rpAll_of {V : D → Prop} {K : PySem.W.Frag} {G G' : Hp} (h : ∀ u e, V e → Rp K G u e → Rp K G' u e) : ∀ {us : List L2.V} {ds : List D}, (∀ d, d ∈ ds → V d) → RpAll K G us ds → RpAll K G' us ds
  | _, _, _, .nil => .nil
  | _, _, n, .cons a r => .cons (h _ _ (n _ (by simp)) a) (rpAll_of h (fun d hd => n d (by simp [hd])) r)
theorem jgbs_cons {g : DG} {gs : List D → Env → (Env → Prop) → Prop} (h1 : JGB X V e g) (h2 : JGBs X V es gs) (hs : (assignEach (e :: es) X.env).map (·.2) = assign e X.env :: (assignEach es X.env).map (·.2) := by rfl) : JGBs X V (e :: es) (gsCons g gs) := by
  obtain ⟨t1, p1, k1⟩ := h1.ex
  obtain ⟨t2, p2, k2⟩ := h2.ex
  refine ⟨_, pgs_cons p1 p2 hs, fun T B p ρ σ H us ds QD Q q rv n h k => ?_⟩
  cases rv with
  | nil => exact False.elim h
  | cons rv rr => exact ⟨_, _, rfl, k1 T B p ρ σ H _ _ _ _ q rv h fun ρ1 H1 q1 kp1 keep h => k2 T B p ρ1 σ H1 _ _ _ _ q1 (rpAll_of keep (fun d hd => n d (by simp [hd])) rr) (fun d hd => n d (by simp [hd])) h fun ρ2 H2 q2 kp2 h => k _ _ q2 (kp1.trans kp2) h⟩
def gTpB (V : D → Prop) (n : Nat) (gs : List D → Env → (Env → Prop) → Prop) : DG := fun d ρ QD => ∃ ds, d = .tuple ds ∧ ds.length = n ∧ (∀ d, d ∈ ds → V d) ∧ gs ds ρ QD
/-- a target alone: what else is kept does not matter -/
structure JGC (X : Cx) (tg : Expr) (g : DG) : Prop where
  ex : ∃ t, PG X tg t ∧ ∀ (T B : Addr → Prop) (p : Addr) (ρ : Env) (σ : L2.St) (H : Hp) (v : L2.V) (d : D) (QD : Env → Prop) (Q : L2.St → Hp → Prop), Qs X.K T B p ρ σ H → Rp X.K (hide (Hd T ρ σ) H) v d → g d ρ QD →
    (∀ ρ' H', Qs X.K T B p ρ' σ H' → Kp B p H H' → QD ρ' → Q σ H') → t v σ H Q
theorem jgc_of {g : DG} (h : JGB X V e g) : JGC X e g := by
  obtain ⟨t, pt, k⟩ := h.ex
  exact ⟨t, pt, fun T B p ρ σ H v d QD Q q rv h kk => k T B p ρ σ H v d QD Q q rv h fun ρ' H' q' kp _ h => kk ρ' H' q' kp h⟩
theorem jgc_tup {k n : Nat} {gs : List D → Env → (Env → Prop) → Prop} (hc : X.calm = true) (h : JGBs X V es gs) (hn : (assignEach es X.env).length = n := by rfl) (hst : (assignEach es X.env).findIdx? (·.1) = none := by rfl) : JGC X (.Tuple es k pos) (gTpB V n gs) := by
  obtain ⟨t, pt, kt⟩ := h.ex
  refine ⟨_, pg_tup hc pt hn hst, fun T B p ρ σ H v d QD Q q rv h kk => ?_⟩
  obtain ⟨ds, rfl, hl, hv, h⟩ := h
  cases rv with
  | tup hp rr => exact ⟨_, _, rfl, sqt_of hp, by rw [rr.length]; exact hl, kt T B p ρ σ H _ _ _ _ q rr hv h kk⟩
theorem jb_asg {tg : Expr} {g : DG} (ha : JE X e fa) (hg : JGC X tg g) (hs : swapsWithSole [tg] e pos.line X.env = pure false := by rfl) (hw : swappedStores [tg] e X.env = pure none := by rfl) (h1 : (assignEach [tg] X.env).map (·.2) = [assign tg X.env] := by rfl) : JB1 X (.Assign [tg] e pos) (sAsgB fa g) := by
  obtain ⟨t, pt, kt⟩ := ha.ex
  obtain ⟨t2, p2, k2⟩ := hg.ex
  refine ⟨_, ps_asg pt p2 hs hw h1, fun T B p ρ σ H E D q h e => kt T ρ σ H _ _ q.rs (h p q.fr) fun d ρ1 v H1 r1 po v1 h => ?_⟩
  have q1 := q.step r1 po h.1
  exact k2 T B p ρ1 σ H1 _ _ _ _ q1 v1 h.2 fun ρ2 H2 q2 kp h => e.nx _ _ _ q2 ((q.kp po).trans kp) h
/-- a def's whole body -/
theorem jss_of_jb (h : JB X sts f) (f' : DS) (hf : ∀ E ρ, f' E ρ → (∃ p, Fr p ρ) ∧ (∀ (i : Nat) (d : D), ρ[i]? = some (some (.im d)) → NL d) ∧ f E ρ) : JSs X sts f' := by
  obtain ⟨t, pt, k⟩ := h.ex
  refine ⟨t, pt, fun T ρ σ H E Dz r h e => ?_⟩
  obtain ⟨⟨p, fr⟩, nl, h⟩ := hf E ρ h
  have s0 : σ[0]? = some (some (.ref p)) := by
    obtain ⟨a, b, c, w⟩ := fr.dice
    obtain ⟨x, o, h1, _⟩ := r.ow 0 _ w
    rw [h1, r.tag 0 p _ x w h1]
  have own : ∀ a, Own ρ σ a ↔ a = p := fun a => by
    constructor
    · rintro ⟨i, m, h1, h2⟩
      by_cases e : i = 0
      · subst e; rw [s0] at h2; cases h2; rfl
      · obtain ⟨d, z, _⟩ := fr.rest i _ h1 e
        cases z
    · rintro rfl
      obtain ⟨a, b, c, w⟩ := fr.dice
      exact ⟨0, _, w, s0⟩
  have keep : ∀ {v : L2.V} {d : D}, NL d → Rp X.K (hide (Hd T ρ σ) H) v d → Rp X.K (hide (Hd (fun a => T a ∨ (a ≠ p ∧ ∃ xs, H a = some (.lst xs))) ρ σ) H) v d := by
    have key : ∀ {d : D}, NL d → ∀ {v : L2.V}, Rp X.K (hide (Hd T ρ σ) H) v d → Rp X.K (hide (Hd (fun a => T a ∨ (a ≠ p ∧ ∃ xs, H a = some (.lst xs))) ρ σ) H) v d := by
      intro d n
      induction n with
      | non => intro v r; cases r; exact .non
      | bl b => intro v r; cases r; exact .bl b
      | int b => intro v r; cases r; exact .int b
      | str b => intro v r; cases r; exact .str b
      | @tup ds hn ih =>
        intro v r
        cases r with
        | @tup a xs _ g rr =>
          obtain ⟨n1, n2⟩ := hide_some.1 g
          refine .tup (hide_some.2 ⟨?_, n2⟩) ?_
          · rintro ((w | ⟨_, ys, w⟩) | w)
            · exact n1 (.inl w)
            · rw [n2] at w; cases w
            · exact n1 (.inr w)
          · clear g n1 n2 hn
            induction ds generalizing xs with
            | nil => cases rr; exact .nil
            | cons d ds ih2 =>
              cases rr with
              | cons r1 r2 => exact .cons (ih d (by simp) r1) (ih2 (fun x hx => ih x (by simp [hx])) r2)
    exact fun {v d} n r => key n r
  have q : Qs X.K (fun a => T a ∨ (a ≠ p ∧ ∃ xs, H a = some (.lst xs))) (fun a => H a = none) p ρ σ H := by
    refine ⟨⟨r.len, fun i d w => ?_, fun i m w => ?_, r.inj, fun a t w => ?_, fun a t => ?_, r.tag⟩, fr, fun a xs t n w => ?_, fun a w => w⟩
    · obtain ⟨v, h1, h2⟩ := r.im i d w
      exact ⟨v, h1, keep (nl i d w) h2⟩
    · obtain ⟨a, o, h1, h2, h3⟩ := r.ow i m w
      refine ⟨a, o, h1, h2, ?_⟩
      by_cases z : i = 0
      · subst z
        obtain ⟨x, y, z, w'⟩ := fr.dice
        rw [w] at w'; cases w'
        cases o with
        | lst vs => exact rpAll_of (V := NL) (fun u e n r => keep n r) (fun d hd => by simp at hd; rcases hd with rfl | rfl | rfl <;> exact .int _) h3
        | _ => exact False.elim h3
      · obtain ⟨d, z, _⟩ := fr.rest i _ w z
        cases z
    · rcases t with t | ⟨t, _⟩
      · exact r.dis a t w
      · exact t ((own a).1 w)
    · rcases t with t | ⟨_, xs, w⟩
      · exact r.dom a t
      · rw [w]; simp
    · exact absurd (.inr ⟨n, xs, w⟩) t
  have back : ∀ {ρ' : Env} {σ' : L2.St} {H' : Hp}, Qs X.K (fun a => T a ∨ (a ≠ p ∧ ∃ xs, H a = some (.lst xs))) (fun a => H a = none) p ρ' σ' H' → Kp (fun a => H a = none) p H H' → RS X.K T ρ' σ' H' ∧ Po ρ σ H ρ' σ' H' := fun {ρ' σ' H'} q' k => by
    refine ⟨q'.rs.sub fun a t => .inl t, fun a o n w => k.keep a o (fun z => n ((own a).2 z)) (fun z => by rw [z] at w; cases w) w, fun a w => .inl ((own a).2 (q'.own.1 w)), k.dom⟩
  exact k _ _ p ρ σ H E Dz q h ⟨fun ρ' σ' H' q' k h => e.nx _ _ _ (back q' k).1 (back q' k).2 h, fun d ρ' σ' v H' q' k rv h => e.rt _ _ _ _ _ (back q' k).1 (back q' k).2 (rv.mono (hide_sub fun a w => w.elim (fun t => .inl (.inl t)) .inr)) h⟩
end
end Dn
set_option Elab.async false
set_option linter.all false
set_option maxRecDepth 100000
set_option autoImplicit false
set_option maxHeartbeats 4000000
namespace Dn
open PySem L2 Evl
section
variable {X : Cx} {es : List Expr} {pos : Pos}
/-- a, b, .. = a list -/
def gTpL (n : Nat) (gs : List D → Env → (Env → Prop) → Prop) : DG := fun d ρ Q => match d with
  | .list ds => ds.length = n ∧ gs ds ρ Q
  | _ => False
theorem jg_lst {k n : Nat} {gs : List D → Env → (Env → Prop) → Prop} {vs : List Nat} (hc : X.calm = true) (h : JGs X es vs gs) (hn : (assignEach es X.env).length = n := by rfl) (hst : (assignEach es X.env).findIdx? (·.1) = none := by rfl) : JG X (.Tuple es k pos) vs (gTpL n gs) := by
  obtain ⟨t, pt, kt⟩ := h.ex
  refine ⟨_, pg_lst hc pt hn hst, fun T ρ σ H v d QD Q r rv h q => ?_⟩
  cases rv with
  | lst hp rr => exact ⟨_, _, rfl, .inl (.inl (at_of hp)), by rw [rr.length]; exact h.1, kt T ρ σ H _ _ _ _ r rr h.2 q⟩
  | _ => exact False.elim h
end
end Dn
set_option Elab.async false
set_option linter.all false
set_option maxRecDepth 100000
set_option autoImplicit false
set_option maxHeartbeats 4000000
/-! The same where the frame begins with a list of tuples in slot 1 that is read, and then no longer. -/
namespace Dn
open PySem L2 Evl
def isTupD : D → Prop
  | .tuple _ => True
  | _ => False
/-- every list in it begins with something else than a tuple -/
inductive NA : D → Prop
  | nl {d : D} : NL d → NA d
  | lst {e : D} {ds : List D} : ¬ isTupD e → NA e → (∀ d, d ∈ ds → NA d) → NA (.list (e :: ds))
section
variable {K : PySem.W.Frag} {G G' : Hp}
/-- the list at b, of tuples, is hidden -/
theorem na_keep {b : Addr} {x : V} {xs : List V} {rs : List D} (hb : ∀ a o, a ≠ b → G a = some o → G' a = some o) (hl : G b = some (.lst (x :: xs))) (hx : Rp K G x (.tuple rs)) : ∀ {d : D}, NA d → ∀ {v : V}, Rp K G v d → Rp K G' v d := by
  intro d n
  induction n with
  | nl n => exact fun r => nl_keep hb hl n r
  | @lst e ds ne nae _ ih1 ih2 =>
    intro v r
    cases r with
    | @lst a ys _ g rr =>
      cases rr with
      | @cons y ys _ _ r1 r2 =>
        have ab : a ≠ b := fun z => by
          subst z
          rw [hl] at g
          obtain ⟨rfl, rfl⟩ : x = y ∧ xs = ys := by simpa using g
          cases hx with
          | tup h _ =>
            cases e with
            | tuple _ => exact ne trivial
            | list _ => cases r1 with | lst h2 _ => rw [h] at h2; cases h2
            | dict _ => cases nae with | nl n => cases n
            | _ => cases r1
        have all : ∀ {ys : List V} {ds : List D}, (∀ d, d ∈ ds → ∀ {v : V}, Rp K G v d → Rp K G' v d) → RpAll K G ys ds → RpAll K G' ys ds := by
          intro ys ds f r
          induction ds generalizing ys with
          | nil => cases r; exact .nil
          | cons d ds ih3 => cases r with
            | cons q1 q2 => exact .cons (f d (by simp) q1) (ih3 (fun d hd => f d (by simp [hd])) q2)
        exact .lst (hb _ _ ab g) (.cons (ih1 r1) (all ih2 r2))
theorem NA.pl {d : D} (h : NA d) : PL d := by
  induction h with
  | nl n => exact .nl n
  | lst _ _ _ ih1 ih2 => exact PL.lst (fun d hd => (List.mem_cons.mp hd).elim (fun z => by rw [z]; exact ih1) (ih2 d))
end
def gB2 (f1 f2 f : DS) : DS := fun E ρ => ∃ (p : Addr) (ms : List D) (C : List (List Int)) (n : Nat), (∃ a b c : Int, ms = [.int a, .int b, .int c]) ∧ ρ = some (.ow (.par p (.lst ms))) :: some (.im (.list (C.map fun r => .tuple (r.map .int)))) :: List.replicate n none ∧
  f1 { nx := f2 { nx := fun ρ2 => ρ2[1]? = some (some (.im (.list (C.map fun r => .tuple (r.map .int))))) ∧ C ≠ [] ∧ (∀ (i : Nat) (d : D), i ≠ 1 → ρ2[i]? = some (some (.im d)) → NA d) ∧ Fr p (ρ2.set 1 none) ∧ f E (ρ2.set 1 none), rt := E.rt }, rt := E.rt } ρ
section
variable {X : Cx} {s1 s2 : Stmt} {sts : List Stmt} {f1 f2 f : DS}
theorem jss_of_jb2 (h1 : JS X s1 f1) (h2 : JS X s2 f2) (h : JB X sts f) (f' : DS) (hf : ∀ E ρ, f' E ρ → ∃ (p : Addr) (ms : List D) (C : List (List Int)) (n : Nat), (∃ a b c : Int, ms = [.int a, .int b, .int c]) ∧ ρ = some (.ow (.par p (.lst ms))) :: some (.im (.list (C.map fun r => .tuple (r.map .int)))) :: List.replicate n none ∧
      f1 { nx := f2 { nx := fun ρ2 => ρ2[1]? = some (some (.im (.list (C.map fun r => .tuple (r.map .int))))) ∧ C ≠ [] ∧ (∀ (i : Nat) (d : D), i ≠ 1 → ρ2[i]? = some (some (.im d)) → NA d) ∧ Fr p (ρ2.set 1 none) ∧ f E (ρ2.set 1 none), rt := E.rt }, rt := E.rt } ρ) : JSs X (s1 :: s2 :: sts) f' := by
  obtain ⟨t1, p1, k1⟩ := h1.ex
  obtain ⟨t2, p2, k2⟩ := h2.ex
  obtain ⟨t, pt, k⟩ := h.ex
  refine ⟨_, pss_cons p1 (pss_cons p2 pt), fun T ρ σ H E Dz r h e => ?_⟩
  obtain ⟨p, ms, C, n, hm, rfl, h⟩ := hf E ρ h
  obtain ⟨v1, q1, rv1⟩ := r.im 1 _ rfl
  have s0 : σ[0]? = some (some (.ref p)) := by
    obtain ⟨x, o, h1, _⟩ := r.ow 0 _ rfl
    rw [h1, r.tag 0 p _ x rfl h1]
  have own : ∀ a, Own (some (.ow (.par p (.lst ms))) :: some (.im (.list (C.map fun r => .tuple (r.map .int)))) :: List.replicate n none) σ a ↔ a = p := fun a => by
    constructor
    · rintro ⟨i, m, h1, h2⟩
      match i, h1 with
      | 0, h1 => rw [s0] at h2; cases h2; rfl
      | 1, h1 => simp at h1
      | i + 2, h1 =>
        exfalso
        simp [List.getElem?_replicate] at h1
    · rintro rfl
      exact ⟨0, _, rfl, s0⟩
  cases rv1 with
  | @lst ad xs _ g rr =>
    obtain ⟨nd, hd⟩ := hide_some.1 g
    have nlr : ∀ d, d ∈ (C.map fun r => (PyData.tuple (r.map .int))) → NL d := fun d hd => by
      obtain ⟨r, _, rfl⟩ := List.mem_map.mp hd
      exact .tup fun x hx => by
        obtain ⟨i, _, rfl⟩ := List.mem_map.mp hx
        exact .int i
    have keepNL : ∀ (S : Addr → Prop), (∀ a, S a → ∃ xs, H a = some (.lst xs)) → ∀ {d : D}, NL d → ∀ {v : L2.V}, Rp X.K (hide (Hd T (some (.ow (.par p (.lst ms))) :: some (.im (.list (C.map fun r => .tuple (r.map .int)))) :: List.replicate n none) σ) H) v d →
        Rp X.K (hide (Hd (fun a => T a ∨ S a) (some (.ow (.par p (.lst ms))) :: some (.im (.list (C.map fun r => .tuple (r.map .int)))) :: List.replicate n none) σ) H) v d := by
      intro S hS d nn
      induction nn with
      | non => intro v r; cases r; exact .non
      | bl b => intro v r; cases r; exact .bl b
      | int b => intro v r; cases r; exact .int b
      | str b => intro v r; cases r; exact .str b
      | @tup ds hn ih =>
        intro v r
        cases r with
        | @tup a xs _ g rr =>
          obtain ⟨n1, n2⟩ := hide_some.1 g
          refine .tup (hide_some.2 ⟨?_, n2⟩) ?_
          · rintro ((w | w) | w)
            · exact n1 (.inl w)
            · obtain ⟨ys, w⟩ := hS a w
              rw [n2] at w; cases w
            · exact n1 (.inr w)
          · clear g n1 n2 hn
            induction ds generalizing xs with
            | nil => cases rr; exact .nil
            | cons d ds ih2 => cases rr with
              | cons r1 r2 => exact .cons (ih d (by simp) r1) (ih2 (fun x hx => ih x (by simp [hx])) r2)
    have keepAll : ∀ (S : Addr → Prop), (∀ a, S a → ∃ xs, H a = some (.lst xs)) → ∀ {vs : List L2.V} {ds : List D}, (∀ d, d ∈ ds → NL d) → RpAll X.K (hide (Hd T (some (.ow (.par p (.lst ms))) :: some (.im (.list (C.map fun r => .tuple (r.map .int)))) :: List.replicate n none) σ) H) vs ds →
        RpAll X.K (hide (Hd (fun a => T a ∨ S a) (some (.ow (.par p (.lst ms))) :: some (.im (.list (C.map fun r => .tuple (r.map .int)))) :: List.replicate n none) σ) H) vs ds := fun S hS {vs ds} n r => rpAll_of (V := NL) (fun u e ne re => keepNL S hS ne re) n r
    have r1 : RS X.K (fun a => T a ∨ (a ≠ p ∧ a ≠ ad ∧ ∃ xs, H a = some (.lst xs))) (some (.ow (.par p (.lst ms))) :: some (.im (.list (C.map fun r => .tuple (r.map .int)))) :: List.replicate n none) σ H := by
      have hS : ∀ a, (a ≠ p ∧ a ≠ ad ∧ ∃ xs, H a = some (.lst xs)) → ∃ xs, H a = some (.lst xs) := fun a h => h.2.2
      refine ⟨r.len, fun i d w => ?_, fun i m w => ?_, r.inj, fun a t w => ?_, fun a t => ?_, r.tag⟩
      · match i, w with
        | 0, w => simp at w
        | 1, w =>
          simp at w
          subst w
          refine ⟨.ref ad, q1, .lst (hide_some.2 ⟨?_, hd⟩) (keepAll _ hS nlr rr)⟩
          rintro ((w | ⟨_, w, _⟩) | w)
          · exact nd (.inl w)
          · exact w rfl
          · exact nd (.inr w)
        | i + 2, w => simp [List.getElem?_replicate] at w
      · match i, w with
        | 0, w =>
          obtain ⟨a, o, h1, h2, h3⟩ := r.ow 0 _ rfl
          simp at w
          subst w
          refine ⟨a, o, h1, h2, ?_⟩
          obtain ⟨x, y, z, rfl⟩ := hm
          cases o with
          | lst vs => exact keepAll _ hS (fun d hd => by simp at hd; rcases hd with rfl | rfl | rfl <;> exact .int _) h3
          | _ => exact False.elim h3
        | 1, w => simp at w
        | i + 2, w => simp [List.getElem?_replicate] at w
      · rcases t with t | ⟨t, _⟩
        · exact r.dis a t w
        · exact t ((own a).1 w)
      · rcases t with t | ⟨_, _, xs, w⟩
        · exact r.dom a t
        · rw [w]; simp
    have low : ∀ {ρ' : Env} {σ' : L2.St} {H' : Hp} {v : L2.V} {d : D}, Rp X.K (hide (Hd (fun a => T a ∨ (a ≠ p ∧ a ≠ ad ∧ ∃ xs, H a = some (.lst xs))) ρ' σ') H') v d → Rp X.K (hide (Hd T ρ' σ') H') v d := fun r => r.mono (hide_sub fun a w => w.elim (fun t => .inl (.inl t)) .inr)
    refine k1 _ _ σ H _ _ r1 h ⟨fun ρ1 σ1 H1 ra pa h => ?_, fun d ρ1 σ1 v H1 ra pa rv h => e.rt _ _ _ _ _ (ra.sub fun a t => .inl t) pa (low rv) h, fun _ _ _ _ _ h => h.elim, fun _ _ _ _ _ h => h.elim⟩
    refine k2 _ _ σ1 H1 _ _ ra h ⟨fun ρ2 σ2 H2 rb pb h => ?_, fun d ρ2 σ2 v H2 rb pb rv h => e.rt _ _ _ _ _ (rb.sub fun a t => .inl t) (pa.trans pb) (low rv) h, fun _ _ _ _ _ h => h.elim, fun _ _ _ _ _ h => h.elim⟩
    have pab := pa.trans pb
    obtain ⟨e1, cn, na, fr, hfin⟩ := h
    have nad : ¬ Own (some (.ow (.par p (.lst ms))) :: some (.im (.list (C.map fun r => .tuple (r.map .int)))) :: List.replicate n none) σ ad := fun w => nd (.inr w)
    have ad2 : H2 ad = some (.lst xs) := pab.keep ad _ nad hd
    have rd := rb.drop (i := 1)
    have s02 : σ2[0]? = some (some (.ref p)) := by
      obtain ⟨a, b, c, w⟩ := fr.dice
      obtain ⟨x, o, h1, _⟩ := rd.ow 0 _ w
      rw [h1, rd.tag 0 p _ x w h1]
    have own2 : ∀ a, Own (ρ2.set 1 none) σ2 a ↔ a = p := fun a => by
      constructor
      · rintro ⟨i, m, h1, h2⟩
        by_cases z : i = 0
        · subst z; rw [s02] at h2; cases h2; rfl
        · obtain ⟨d, w, _⟩ := fr.rest i _ h1 z
          cases w
      · rintro rfl
        obtain ⟨a, b, c, w⟩ := fr.dice
        exact ⟨0, _, w, s02⟩
    have nadp : ad ≠ p := fun z => nad ((own ad).2 z)
    -- the list of slot 1 is hidden from now on
    obtain ⟨x0, xr, c0, cr, rfl, rfl⟩ : ∃ x0 xr c0 cr, xs = x0 :: xr ∧ C = c0 :: cr := by
      cases C with
      | nil => exact absurd rfl cn
      | cons c0 cr => cases xs with
        | nil => cases rr
        | cons x0 xr => exact ⟨x0, xr, c0, cr, rfl, rfl⟩
    have g2 : hide (Hd (fun a => T a ∨ (a ≠ p ∧ a ≠ ad ∧ ∃ xs, H a = some (.lst xs))) (ρ2.set 1 none) σ2) H2 ad = some (.lst (x0 :: xr)) := hide_some.2 ⟨by
      rintro ((w | ⟨_, w, _⟩) | w)
      · exact nd (.inl w)
      · exact w rfl
      · exact nadp ((own2 ad).1 w), ad2⟩
    obtain ⟨w1, w2, w3⟩ := rb.im 1 _ e1
    have hx0 : Rp X.K (hide (Hd (fun a => T a ∨ (a ≠ p ∧ a ≠ ad ∧ ∃ xs, H a = some (.lst xs))) (ρ2.set 1 none) σ2) H2) x0 (.tuple (c0.map .int)) := by
      have e0 := keepAll (fun a => a ≠ p ∧ a ≠ ad ∧ ∃ xs, H a = some (.lst xs)) (fun a h => h.2.2) nlr rr
      cases e0 with
      | cons e0 _ =>
        have e3 := e0.mono (pab.fz (T := fun a => T a ∨ (a ≠ p ∧ a ≠ ad ∧ ∃ xs, H a = some (.lst xs))))
        exact e3.mono (hide_sub fun a w => w.elim .inl fun w => .inr (own_drop w))
    have hb : ∀ a o, a ≠ ad → hide (Hd (fun a => T a ∨ (a ≠ p ∧ a ≠ ad ∧ ∃ xs, H a = some (.lst xs))) (ρ2.set 1 none) σ2) H2 a = some o → hide (Hd (fun a => (T a ∨ (a ≠ p ∧ a ≠ ad ∧ ∃ xs, H a = some (.lst xs))) ∨ a = ad) (ρ2.set 1 none) σ2) H2 a = some o := fun a o z w => by
      obtain ⟨u1, u2⟩ := hide_some.1 w
      refine hide_some.2 ⟨?_, u2⟩
      rintro ((t | t) | t)
      · exact u1 (.inl t)
      · exact z t
      · exact u1 (.inr t)
    have q : Qs X.K (fun a => (T a ∨ (a ≠ p ∧ a ≠ ad ∧ ∃ xs, H a = some (.lst xs))) ∨ a = ad) (fun a => H a = none) p (ρ2.set 1 none) σ2 H2 := by
      refine ⟨⟨rd.len, fun i d w => ?_, fun i m w => ?_, rd.inj, fun a t w => ?_, fun a t => ?_, rd.tag⟩, fr, fun a ys t z w => ?_, fun a w => ?_⟩
      · obtain ⟨v, u1, u2⟩ := rd.im i d w
        refine ⟨v, u1, na_keep hb g2 hx0 (na i d ?_ ?_) u2⟩
        · rintro rfl
          rcases getset w with ⟨_, _, w⟩ | ⟨w, _⟩
          · cases w
          · exact w rfl
        · rcases getset w with ⟨_, _, w⟩ | ⟨_, w⟩
          · cases w
          · exact w
      · obtain ⟨a, o, u1, u2, u3⟩ := rd.ow i m w
        refine ⟨a, o, u1, u2, ?_⟩
        by_cases z : i = 0
        · subst z
          obtain ⟨x, y, z, w'⟩ := fr.dice
          rw [w] at w'; cases w'
          cases o with
          | lst vs => exact nls_keep hb g2 (fun d hd => by simp at hd; rcases hd with rfl | rfl | rfl <;> exact .int _) u3
          | _ => exact False.elim u3
        · obtain ⟨d, w', _⟩ := fr.rest i _ w z
          cases w'
      · rcases t with t | t
        · exact rd.dis a t w
        · subst t; exact nadp ((own2 a).1 w)
      · rcases t with t | t
        · exact rd.dom a t
        · subst t; rw [ad2]; simp
      · cases u : H a with
        | none => rfl
        | some o =>
          exfalso
          have k3 := pab.keep a o (fun y => z ((own a).1 y)) u
          rw [w] at k3; cases k3
          by_cases y : a = ad
          · exact t (.inr y)
          · exact t (.inl (.inr ⟨z, y, ys, u⟩))
      · cases u : H a with
        | none => rfl
        | some o => exact absurd w (pab.dom a (by rw [u]; simp))
    have back : ∀ {ρ' : Env} {σ' : L2.St} {H' : Hp}, Qs X.K (fun a => (T a ∨ (a ≠ p ∧ a ≠ ad ∧ ∃ xs, H a = some (.lst xs))) ∨ a = ad) (fun a => H a = none) p ρ' σ' H' → Kp (fun a => H a = none) p H2 H' → RS X.K T ρ' σ' H' ∧ Po (some (.ow (.par p (.lst ms))) :: some (.im (.list ((c0 :: cr).map fun r => .tuple (r.map .int)))) :: List.replicate n none) σ H ρ' σ' H' := fun {ρ' σ' H'} q' k => by
      refine ⟨q'.rs.sub fun a t => .inl (.inl t), fun a o z w => ?_, fun a w => .inl ((own a).2 (q'.own.1 w)), fun a w => k.dom a (pab.dom a w)⟩
      exact k.keep a o (fun y => z ((own a).2 y)) (fun y => by rw [y] at w; cases w) (pab.keep a o z w)
    exact k _ _ p (ρ2.set 1 none) σ2 H2 E Dz q hfin ⟨fun ρ' σ' H' q' k h => e.nx _ _ _ (back q' k).1 (back q' k).2 h, fun d ρ' σ' v H' q' k rv h => e.rt _ _ _ _ _ (back q' k).1 (back q' k).2 (rv.mono (hide_sub fun a w => w.elim (fun t => .inl (.inl (.inl t))) .inr)) h⟩
theorem jss_b2 (h1 : JS X s1 f1) (h2 : JS X s2 f2) (h : JB X sts f) : JSs X (s1 :: s2 :: sts) (gB2 f1 f2 f) := jss_of_jb2 h1 h2 h _ fun _ _ h => h
end
end Dn
set_option Elab.async false
set_option linter.all false
set_option maxRecDepth 100000
set_option autoImplicit false
set_option maxHeartbeats 4000000
namespace Dn
open PySem L2 Evl PySem.Spec PyProof.Rows
abbrev N__law_pick : List Str := ["_law_dice_here", "_law_items"]
abbrev P__law_pick : List Str := ["_law_dice_here", "_law_items"]
def g__law_pick : DS := sRet (dBin dIx (dVar 1) (dCallM 0 2 S__law_roll (aCons (dCall dLen (aCons (dVar 1) (aNil))) (aNil))))
abbrev N__law_orders : List Str := ["_law_size", "_law_found", "_law_turn", "_law_longer", "_law_one", "_law_thing"]
abbrev P__law_orders : List Str := ["_law_size"]
def g__law_orders : DS := sSeq (sSet 1 (xIm (dOfL (lLst (aCons (dTup (aNil)) (aNil)))))) (sSeq (sFor (iR1 (dVar 0)) (gNm 2) (sSeq (sSet 3 (xOw (lLst (aNil)))) (sSeq (sFor (iSq (dVar 1)) (gNm 4) (sEx (dExt 3 (dOfL (lLc (iR1 (dVar 0)) (gNm 5) (dTst (dBin (dIn true) (dVar 5) (dVar 4))) (dBin dAdd (dVar 4) (dTup (aCons (dVar 5) (aNil)))) [5]))))) (sSet 1 (xIm (dOfL (lOfO 3))))))) (sRet (dVar 1)))
abbrev N__law_joined : List Str := ["_law_one", "_law_other", "_law_thing"]
abbrev P__law_joined : List Str := ["_law_one", "_law_other"]
def g__law_joined : DS := sRet (dCall dTupOf (aCons (dOfL (lLc (iSq (dVar 1)) (gNm 2) (dYes) (dBin dIx (dVar 0) (dVar 2)) [2])) (aNil)))
abbrev N__law_undone : List Str := ["_law_move", "_law_found", "_law_thing", "_law_goal"]
abbrev P__law_undone : List Str := ["_law_move"]
def g__law_undone : DS := sSeq (sSet 1 (xOw (lLc (iSq (dVar 0)) (gNm 2) (dYes) (dC (.int 0)) [2]))) (sSeq (sFor (iEn (dVar 0)) (gTp 2 (gsCons (gNm 2) (gsCons (gNm 3) (gsNil)))) (sSub 1 (dVar 3) (dVar 2))) (sRet (dTupO 1)))
abbrev N__law_renamed_dots : List Str := ["_law_dots", "_law_order", "_law_back", "_law_x", "_law_y"]
abbrev P__law_renamed_dots : List Str := ["_law_dots", "_law_order"]
def g__law_renamed_dots : DS := sSeq (sSet 2 (xIm (dCallF 1 S__law_undone (aCons (dVar 1) (aNil))))) (sRet (dOfL (lLc (iSq (dVar 1)) (gNm 3) (dYes) (dCall dTupOf (aCons (dOfL (lLc (iSq (dVar 1)) (gNm 4) (dYes) (dBin dIx (dVar 2) (dBin dIx (dBin dIx (dVar 0) (dVar 3)) (dVar 4))) [4])) (aNil))) [3])))
abbrev N__law_keeps_dots : List Str := ["_law_dots", "_law_move", "_law_x", "_law_row", "_law_goals", "_law_y", "_law_goal"]
abbrev P__law_keeps_dots : List Str := ["_law_dots", "_law_move"]
def g__law_keeps_dots : DS := sSeq (sFor (iEn (dVar 0)) (gTp 2 (gsCons (gNm 2) (gsCons (gNm 3) (gsNil)))) (sSeq (sSet 4 (xIm (dBin dIx (dVar 0) (dBin dIx (dVar 1) (dVar 2))))) (sIf (dTNot (dTst (dCall dAll (aCons (dOfL (lLc (iEn (dVar 3)) (gTp 2 (gsCons (gNm 5) (gsCons (gNm 6) (gsNil)))) (dYes) (dBin dEq (dBin dIx (dVar 1) (dVar 6)) (dBin dIx (dVar 4) (dBin dIx (dVar 1) (dVar 5)))) [5, 6])) (aNil))))) (sRet (dC (.bool false))) (sNx)))) (sRet (dC (.bool true)))
abbrev N__law_union_dots : List Str := ["_law_one", "_law_other", "_law_first", "_law_second", "_law_size", "_law_found", "_law_row", "_law_goal"]
abbrev P__law_union_dots : List Str := ["_law_one", "_law_other", "_law_first", "_law_second"]
def g__law_union_dots : DS := sSeq (sPar 4 5 (xIm (dCall dLen (aCons (dVar 0) (aNil)))) (xOw (lLst (aNil)))) (sSeq (sFor (iSq (dVar 0)) (gNm 6) (sEx (dApp 5 (dCall dTupOf (aCons (dBin dAdd (dOfL (lOf (dVar 6))) (dOfL (lLc (iSq (dVar 2)) (gNm 7) (dYes) (dBin dAdd (dVar 4) (dVar 7)) [7]))) (aNil)))))) (sSeq (sFor (iSq (dVar 1)) (gNm 6) (sEx (dApp 5 (dCall dTupOf (aCons (dBin dAdd (dOfL (lOf (dVar 3))) (dOfL (lLc (iSq (dVar 6)) (gNm 7) (dYes) (dBin dAdd (dVar 4) (dVar 7)) [7]))) (aNil)))))) (sRetO 5)))
abbrev N__law_places_of : List Str := ["_law_count", "_law_size", "_law_at"]
abbrev P__law_places_of : List Str := ["_law_count", "_law_size"]
def g__law_places_of : DS := sRet (dOfL (lLc (iR1 (dBin dMulA (dVar 0) (dVar 1))) (gNm 2) (dYes) (dTup (aCons (dBin dFdiv (dVar 2) (dVar 1)) (aCons (dBin dMod (dVar 2) (dVar 1)) (aNil)))) [2]))
abbrev N__law_product_dots : List Str := ["_law_one", "_law_other", "_law_size", "_law_found", "_law_places", "_law_first", "_law_second", "_law_row", "_law_line", "_law_a", "_law_b"]
abbrev P__law_product_dots : List Str := ["_law_one", "_law_other"]
def g__law_product_dots : DS := sSeq (sPar 2 3 (xIm (dCall dLen (aCons (dVar 1) (aNil)))) (xOw (lLst (aNil)))) (sSeq (sSet 4 (xIm (dCallF 2 S__law_places_of (aCons (dCall dLen (aCons (dVar 0) (aNil))) (aCons (dVar 2) (aNil)))))) (sSeq (sFor (iSq (dVar 4)) (gTp 2 (gsCons (gNm 5) (gsCons (gNm 6) (gsNil)))) (sSeq (sPar 7 8 (xIm (dBin dIx (dVar 0) (dVar 5))) (xIm (dBin dIx (dVar 1) (dVar 6)))) (sEx (dApp 3 (dCall dTupOf (aCons (dOfL (lLc (iSq (dVar 4)) (gTp 2 (gsCons (gNm 9) (gsCons (gNm 10) (gsNil)))) (dYes) (dBin dAdd (dBin dMulA (dBin dIx (dVar 7) (dVar 9)) (dVar 2)) (dBin dIx (dVar 8) (dVar 10))) [9, 10])) (aNil))))))) (sRetO 3)))
abbrev N__law_small_dots : List Str := ["_law_dice_here", "_law_most", "_law_way", "_law_size", "_law_move", "_law_letter"]
abbrev P__law_small_dots : List Str := ["_law_dice_here", "_law_most"]
def g__law_small_dots : DS := sSeq (sSet 2 (xIm (dCallM 0 2 S__law_roll (aCons (dC (.int 6)) (aNil))))) (sSeq (sIf (dTAnd (dTst (dBin dEq (dVar 2) (dC (.int 0)))) (dTst (dBin dGt (dVar 1) (dC (.int 3))))) (sRet (dOfL (lLst (aCons (dTup (aCons (dC (.int 0)) (aCons (dC (.int 1)) (aCons (dC (.int 3)) (aCons (dC (.int 2)) (aNil)))))) (aCons (dTup (aCons (dC (.int 2)) (aCons (dC (.int 3)) (aCons (dC (.int 1)) (aCons (dC (.int 0)) (aNil)))))) (aCons (dTup (aCons (dC (.int 1)) (aCons (dC (.int 0)) (aCons (dC (.int 2)) (aCons (dC (.int 3)) (aNil)))))) (aCons (dTup (aCons (dC (.int 3)) (aCons (dC (.int 2)) (aCons (dC (.int 0)) (aCons (dC (.int 1)) (aNil)))))) (aNil)))))))) (sNx)) (sSeq (sIf (dTAnd (dTst (dBin dEq (dVar 2) (dC (.int 1)))) (dTst (dBin dGt (dVar 1) (dC (.int 3))))) (sRet (dOfL (lLst (aCons (dTup (aCons (dC (.int 1)) (aCons (dC (.int 0)) (aCons (dC (.int 2)) (aCons (dC (.int 3)) (aNil)))))) (aCons (dTup (aCons (dC (.int 2)) (aCons (dC (.int 3)) (aCons (dC (.int 1)) (aCons (dC (.int 0)) (aNil)))))) (aCons (dTup (aCons (dC (.int 3)) (aCons (dC (.int 2)) (aCons (dC (.int 0)) (aCons (dC (.int 1)) (aNil)))))) (aCons (dTup (aCons (dC (.int 0)) (aCons (dC (.int 1)) (aCons (dC (.int 3)) (aCons (dC (.int 2)) (aNil)))))) (aNil)))))))) (sNx)) (sSeq (sIf (dTAnd (dTst (dBin dEq (dVar 2) (dC (.int 2)))) (dTst (dBin dGt (dVar 1) (dC (.int 3))))) (sRet (dCallM 0 2 S__law_pick (aCons (dOfL (lLst (aCons (dOfL (lLst (aCons (dTup (aCons (dC (.int 1)) (aCons (dC (.int 2)) (aCons (dC (.int 3)) (aCons (dC (.int 0)) (aNil)))))) (aCons (dTup (aCons (dC (.int 3)) (aCons (dC (.int 0)) (aCons (dC (.int 1)) (aCons (dC (.int 2)) (aNil)))))) (aCons (dTup (aCons (dC (.int 1)) (aCons (dC (.int 2)) (aCons (dC (.int 3)) (aCons (dC (.int 0)) (aNil)))))) (aCons (dTup (aCons (dC (.int 3)) (aCons (dC (.int 0)) (aCons (dC (.int 1)) (aCons (dC (.int 2)) (aNil)))))) (aNil))))))) (aCons (dOfL (lLst (aCons (dTup (aCons (dC (.int 1)) (aCons (dC (.int 0)) (aCons (dC (.int 3)) (aCons (dC (.int 2)) (aNil)))))) (aCons (dTup (aCons (dC (.int 2)) (aCons (dC (.int 3)) (aCons (dC (.int 0)) (aCons (dC (.int 1)) (aNil)))))) (aCons (dTup (aCons (dC (.int 2)) (aCons (dC (.int 3)) (aCons (dC (.int 0)) (aCons (dC (.int 1)) (aNil)))))) (aCons (dTup (aCons (dC (.int 1)) (aCons (dC (.int 0)) (aCons (dC (.int 3)) (aCons (dC (.int 2)) (aNil)))))) (aNil))))))) (aNil))))) (aNil)))) (sNx)) (sSeq (sSet 3 (xIm (dBin dAdd (dC (.int 1)) (dCallM 0 2 S__law_roll (aCons (dCall dMin2 (aCons (dC (.int 4)) (aCons (dVar 1) (aNil)))) (aNil)))))) (sSeq (sSet 4 (xIm (dIfE (dTst (dBin dGt (dCallM 0 2 S__law_roll (aCons (dC (.int 4)) (aNil))) (dC (.int 0)))) (dCallM 0 2 S__law_drawn_move (aCons (dVar 3) (aNil))) (dTRg (rg1 (dVar 3)))))) (sRet (dOfL (lLc (iR1 (dVar 3)) (gNm 5) (dYes) (dVar 4) [5]))))))))
abbrev N__law_rows_of_dots : List Str := ["_law_dots", "_law_size", "_law_found", "_law_left", "_law_x", "_law_row", "_law_y"]
abbrev P__law_rows_of_dots : List Str := ["_law_dots"]
def g__law_rows_of_dots : DS := sSeq (sPar 1 2 (xIm (dCall dLen (aCons (dVar 0) (aNil)))) (xOw (lLst (aNil)))) (sSeq (sSet 3 (xIm (dOfL (lLc (iSq (dVar 0)) (gNm 5) (dYes) (dCallF 1 S__law_undone (aCons (dVar 5) (aNil))) [5])))) (sSeq (sFor (iR1 (dVar 1)) (gNm 4) (sEx (dApp 2 (dCall dTupOf (aCons (dOfL (lLc (iR1 (dVar 1)) (gNm 6) (dYes) (dTup (aCons (dBin dIx (dBin dIx (dVar 3) (dVar 4)) (dVar 6)) (aCons (dBin dIx (dBin dIx (dVar 0) (dBin dIx (dBin dIx (dVar 3) (dVar 4)) (dVar 6))) (dVar 4)) (aNil)))) [6])) (aNil)))))) (sRet (dTupO 2))))
abbrev N__law_renamed_rows : List Str := ["_law_rows", "_law_order", "_law_back", "_law_found", "_law_x", "_law_y"]
abbrev P__law_renamed_rows : List Str := ["_law_rows", "_law_order"]
def g__law_renamed_rows : DS := sSeq (sPar 2 3 (xIm (dCallF 1 S__law_undone (aCons (dVar 1) (aNil)))) (xOw (lLst (aNil)))) (sSeq (sFor (iSq (dVar 1)) (gNm 4) (sEx (dApp 3 (dCall dTupOf (aCons (dOfL (lLc (iSq (dVar 1)) (gNm 5) (dYes) (dTup (aCons (dBin dIx (dVar 2) (dBin dIx (dBin dIx (dBin dIx (dVar 0) (dVar 4)) (dVar 5)) (dC (.int 0)))) (aCons (dBin dIx (dVar 2) (dBin dIx (dBin dIx (dBin dIx (dVar 0) (dVar 4)) (dVar 5)) (dC (.int 1)))) (aNil)))) [5])) (aNil)))))) (sRet (dTupO 3)))
abbrev N__law_power : List Str := ["_law_move", "_law_times", "_law_found", "_law_turn"]
abbrev P__law_power : List Str := ["_law_move", "_law_times"]
def g__law_power : DS := sSeq (sSet 2 (xIm (dTRg (rg1 (dCall dLen (aCons (dVar 0) (aNil))))))) (sSeq (sFor (iR1 (dVar 1)) (gNm 3) (sSet 2 (xIm (dCallF 2 S__law_joined (aCons (dVar 0) (aCons (dVar 2) (aNil))))))) (sRet (dVar 2)))
abbrev N__law_any_rows : List Str := ["_law_dice_here", "_law_most", "_law_size", "_law_left", "_law_right", "_law_x", "_law_y"]
abbrev P__law_any_rows : List Str := ["_law_dice_here", "_law_most"]
def g__law_any_rows : DS := sSeq (sSet 2 (xIm (dCallM 0 2 S__law_roll (aCons (dBin dAdd (dVar 1) (dC (.int 1))) (aNil))))) (sSeq (sSet 3 (xIm (dOfL (lLc (iR1 (dVar 2)) (gNm 5) (dYes) (dCallM 0 2 S__law_drawn_move (aCons (dVar 2) (aNil))) [5])))) (sSeq (sSet 4 (xIm (dOfL (lLc (iR1 (dVar 2)) (gNm 6) (dYes) (dCallM 0 2 S__law_drawn_move (aCons (dVar 2) (aNil))) [6])))) (sRet (dCall dTupOf (aCons (dOfL (lLc (iR1 (dVar 2)) (gNm 5) (dYes) (dCall dTupOf (aCons (dOfL (lLc (iR1 (dVar 2)) (gNm 6) (dYes) (dTup (aCons (dBin dIx (dBin dIx (dVar 3) (dVar 5)) (dVar 6)) (aCons (dBin dIx (dBin dIx (dVar 4) (dVar 6)) (dVar 5)) (aNil)))) [6])) (aNil))) [5])) (aNil))))))
abbrev N__law_dots_likenesses : List Str := ["_law_dots", "_law_move"]
abbrev P__law_dots_likenesses : List Str := ["_law_dots"]
def g__law_dots_likenesses : DS := sRet (dOfL (lLc (iSq (dCallF 1 S__law_orders (aCons (dCall dLen (aCons (dVar 0) (aNil))) (aNil)))) (gNm 1) (dTst (dCallF 2 S__law_keeps_dots (aCons (dVar 0) (aCons (dVar 1) (aNil))))) (dVar 1) [1]))
abbrev N__law_quiet_dots : List Str := ["_law_dice_here", "_law_least", "_law_most", "_law_found", "_law_turn", "_law_room", "_law_more", "_law_first", "_law_second"]
abbrev P__law_quiet_dots : List Str := ["_law_dice_here", "_law_least", "_law_most"]
def g__law_quiet_dots : DS := sSeq (sSet 3 (xIm (dCallM 0 2 S__law_small_dots (aCons (dVar 2) (aNil))))) (sSeq (sIf (dTAnd (dTst (dBin dGt (dVar 2) (dC (.int 3)))) (dTst (dBin dEq (dCallM 0 2 S__law_roll (aCons (dC (.int 4)) (aNil))) (dC (.int 0))))) (sSet 3 (xIm (dCallF 2 S__law_product_dots (aCons (dOfL (lLst (aCons (dTup (aCons (dC (.int 1)) (aCons (dC (.int 0)) (aNil)))) (aCons (dTup (aCons (dC (.int 1)) (aCons (dC (.int 0)) (aNil)))) (aNil))))) (aCons (dCallM 0 2 S__law_pick (aCons (dOfL (lLst (aCons (dOfL (lLst (aCons (dTup (aCons (dC (.int 0)) (aCons (dC (.int 1)) (aNil)))) (aCons (dTup (aCons (dC (.int 0)) (aCons (dC (.int 1)) (aNil)))) (aNil))))) (aCons (dOfL (lLst (aCons (dTup (aCons (dC (.int 1)) (aCons (dC (.int 0)) (aNil)))) (aCons (dTup (aCons (dC (.int 1)) (aCons (dC (.int 0)) (aNil)))) (aNil))))) (aCons (dOfL (lLst (aCons (dTup (aCons (dC (.int 0)) (aNil))) (aNil)))) (aNil)))))) (aNil))) (aNil)))))) (sNx)) (sSeq (sFor (iR1 (dVar 2)) (gNm 4) (sSeq (sSet 5 (xIm (dBin dSub (dVar 2) (dCall dLen (aCons (dVar 3) (aNil)))))) (sIf (dTAnd (dTst (dBin dGt (dVar 5) (dC (.int 0)))) (dTOr (dTst (dBin dLt (dCall dLen (aCons (dVar 3) (aNil))) (dVar 1))) (dTst (dBin dEq (dCallM 0 2 S__law_roll (aCons (dC (.int 2)) (aNil))) (dC (.int 0)))))) (sSeq (sSet 6 (xIm (dCallM 0 2 S__law_small_dots (aCons (dVar 5) (aNil))))) (sSeq (sSet 7 (xIm (dTRg (rg1 (dCall dLen (aCons (dVar 6) (aNil))))))) (sSeq (sSet 8 (xIm (dTRg (rg1 (dCall dLen (aCons (dVar 3) (aNil))))))) (sSeq (sIf (dTAnd (dTst (dBin dLt (dCall dLen (aCons (dVar 6) (aNil))) (dC (.int 5)))) (dTst (dBin dLt (dCall dLen (aCons (dVar 3) (aNil))) (dC (.int 5))))) (sPar 7 8 (xIm (dCallM 0 2 S__law_pick (aCons (dCallF 1 S__law_dots_likenesses (aCons (dVar 6) (aNil))) (aNil)))) (xIm (dCallM 0 2 S__law_pick (aCons (dCallF 1 S__law_dots_likenesses (aCons (dVar 3) (aNil))) (aNil))))) (sNx)) (sSet 3 (xIm (dCallF 4 S__law_union_dots (aCons (dVar 3) (aCons (dVar 6) (aCons (dVar 7) (aCons (dVar 8) (aNil)))))))))))) (sNx)))) (sRet (dCallF 2 S__law_renamed_dots (aCons (dVar 3) (aCons (dCallM 0 2 S__law_drawn_move (aCons (dCall dLen (aCons (dVar 3) (aNil))) (aNil))) (aNil)))))))
abbrev N__law_fair_rows : List Str := ["_law_dice_here", "_law_least", "_law_most", "_law_way", "_law_size", "_law_move", "_law_one", "_law_other", "_law_turn", "_law_rows", "_law_moves", "_law_x", "_law_goals", "_law_y", "_law_goal"]
abbrev P__law_fair_rows : List Str := ["_law_dice_here", "_law_least", "_law_most"]
def g__law_fair_rows : DS := sSeq (sPar 3 4 (xIm (dCallM 0 2 S__law_roll (aCons (dC (.int 6)) (aNil)))) (xIm (dBin dAdd (dVar 1) (dCallM 0 2 S__law_roll (aCons (dBin dAdd (dBin dSub (dVar 2) (dVar 1)) (dC (.int 1))) (aNil)))))) (sSeq (sIf (dTst (dBin dEq (dVar 3) (dC (.int 0)))) (sSeq (sSet 5 (xIm (dCallM 0 2 S__law_drawn_move (aCons (dVar 4) (aNil))))) (sSeq (sPar 6 7 (xIm (dCallF 2 S__law_power (aCons (dVar 5) (aCons (dCallM 0 2 S__law_roll (aCons (dC (.int 5)) (aNil))) (aNil))))) (xIm (dCallF 2 S__law_power (aCons (dVar 5) (aCons (dCallM 0 2 S__law_roll (aCons (dC (.int 5)) (aNil))) (aNil)))))) (sRet (dCall dTupOf (aCons (dOfL (lLc (iR1 (dVar 4)) (gNm 11) (dYes) (dCall dTupOf (aCons (dOfL (lLc (iR1 (dVar 4)) (gNm 13) (dYes) (dTup (aCons (dBin dIx (dVar 6) (dVar 13)) (aCons (dBin dIx (dVar 7) (dVar 11)) (aNil)))) [13])) (aNil))) [11])) (aNil)))))) (sNx)) (sSeq (sIf (dTst (dBin dEq (dVar 3) (dC (.int 1)))) (sSeq (sSet 8 (xIm (dCallM 0 2 S__law_pick (aCons (dOfL (lLst (aCons (dNeg (dC (.int 1))) (aCons (dNeg (dC (.int 1))) (aCons (dC (.int 2)) (aCons (dC (.int 1)) (aNil))))))) (aNil))))) (sSeq (sSet 8 (xIm (dIfE (dTOr (dTst (dBin dLt (dVar 8) (dC (.int 2)))) (dTst (dBin dEq (dBin dMod (dVar 4) (dC (.int 2))) (dC (.int 1))))) (dVar 8) (dNeg (dC (.int 1)))))) (sSeq (sSet 9 (xOw (lLc (iR1 (dVar 4)) (gNm 11) (dYes) (dCall dTupOf (aCons (dOfL (lLc (iR1 (dVar 4)) (gNm 13) (dYes) (dTup (aCons (dBin dMod (dCall dInt (aCons (dBin dSub (dBin dAdd (dVar 11) (dBin dMulA (dVar 8) (dVar 13))) (dBin dMulA (dVar 8) (dVar 11))) (aNil))) (dVar 4)) (aCons (dVar 11) (aNil)))) [13])) (aNil))) [11]))) (sRet (dCallF 2 S__law_renamed_rows (aCons (dTupO 9) (aCons (dCallM 0 2 S__law_drawn_move (aCons (dVar 4) (aNil))) (aNil)))))))) (sNx)) (sSeq (sIf (dTAnd (dTst (dBin dEq (dVar 3) (dC (.int 2)))) (dTst (dBin dGt (dVar 2) (dC (.int 5))))) (sNever) (sNx)) (sSeq (sIf (dTAnd (dTst (dBin dEq (dVar 3) (dC (.int 3)))) (dTst (dBin dGt (dVar 4) (dC (.int 1))))) (sSeq (sSet 9 (xOw (lLc (iR1 (dVar 4)) (gNm 11) (dYes) (dCall dTupOf (aCons (dOfL (lLc (iR1 (dVar 4)) (gNm 13) (dYes) (dTup (aCons (dVar 13) (aCons (dBin dMod (dCall dInt (aCons (dBin dSub (dBin dMulA (dC (.int 2)) (dVar 13)) (dVar 11)) (aNil))) (dVar 4)) (aNil)))) [13])) (aNil))) [11]))) (sRet (dCallF 2 S__law_renamed_rows (aCons (dTupO 9) (aCons (dCallM 0 2 S__law_drawn_move (aCons (dVar 4) (aNil))) (aNil)))))) (sNx)) (sRet (dCallF 1 S__law_rows_of_dots (aCons (dCallM 0 3 S__law_quiet_dots (aCons (dVar 1) (aCons (dVar 2) (aNil)))) (aNil))))))))
end Dn
set_option Elab.async false
set_option linter.all false
set_option maxRecDepth 100000
set_option autoImplicit false
set_option maxHeartbeats 4000000
namespace Dn
open PySem L2 Evl PySem.Spec PyProof.Rows
local macro_rules | `(tactic| walk_at "dd") => `(tactic| simp only [sSeq, sIf, sSet, sRet, sRetN, sNx, sEx, sAsg, sPar, dTOr, dTAnd, dTNot, dTst, dIsi, dVar, dC, dBin, dChain, dNeg, dI2, dAnd, dOr, dNot, dIfE, dCall, dCallF, aCons, aNil, dTup, lLst, dOfL, xIm, xOw, gNm, gTp, gsCons, gsNil, dYes, envD, dLen_tR, dLen_tI, dLen_tup, dLen_lst, seq_tR, seq_tI, seq_tup, seq_lst, dIs, dIsNot, dNe, dEq, dTupOf, dSl, oNone, oSome, iSq, iEn, iR1, iR2, sFor, lLc, sNever, dTRg, rg1, rg2, lRg, wipeD, isN, optD,
  dIxP, sSub, dApp, dPopAt, dExt, dCallM, dCallO, dBinO, dTupO, lOf, lOfO, sRetO, iOw, dVarF, lCat, lCall, dAbs, dMax2, dMin2, dInt, atO, setO, MO.getL, MO.putL, Option.isSome_some,
  dInK, dGetK, dGetD, dInD, dGet1, lKeys, lSort, dLenSet, dRevT, sPutK, xDct, xDct1, sRetK, atK, keyD, sAugI,
  kit_int, kit_bool, kit_tuple, kit_str, List.map_cons, List.map_nil, List.cons_append, List.nil_append, List.replicate, List.set_cons_zero, List.set_cons_succ, List.getElem?_cons_zero, List.getElem?_cons_succ, List.length_cons, List.length_nil, List.length_map, Nat.reduceAdd, Nat.reduceSub, Bool.not_true, Bool.not_false, Bool.false_eq_true, if_true, if_false, true_and, reduceCtorEq, Bool.true_eq_false, rgD_rgI, Option.some.injEq, exists_eq_left', and_true])
theorem v__law_pick : VM g__law_pick S__law_pick 2 0 := fun l ms ds Q _ h => by
  obtain ⟨d, xs, rfl, hd, hn, hl, hm, h⟩ := h
  unfold g__law_pick
  walk_at "dd"
  rw [dLen_seq hd]
  have pos : 0 < xs.length := List.length_pos_iff.mpr hn
  refine ⟨_, rfl, by omega, by simp only [T60]; omega, hm, fun r ms' r0 r1 hm' => ?_⟩
  unfold dIx
  rw [hd]
  dsimp only
  refine ⟨_, atI_in (d := .none) r0 r1, _, rfl, h _ _ (getD_mem (by omega)) hm'⟩
theorem v__law_undone : VD g__law_undone S__law_undone 1 3 := fun ds Q _ h => by
  obtain ⟨m, rfl, hl, hm, h⟩ := h
  unfold g__law_undone
  walk_at "dd"
  refine wpLc_mapL m PyData.int (fun _ => .int 0) (by omega) rfl (fun x hx K hK => ?_) (fun _ => rfl) ?_
  · walk_at "dd"
    exact hK _ rfl
  · walk_at "dd"
    rw [enD_map m PyData.int 0]
    refine wpFor_cps (fun done ρ => ∃ (u : List Int) (x y : Option SV), ρ = [some (SV.im (tI m)), some (SV.ow (MO.lst (u.map PyData.int))), x, y] ∧ u.length = m.length ∧ ∀ x, x ∈ u → 0 ≤ x ∧ x < m.length) ⟨m.map (fun _ => 0), _, _, (by rw [show (m.map fun _ => (0 : Int)).map PyData.int = m.map fun _ => PyData.int 0 from by rw [List.map_map]; rfl]), (by simp), fun x hx => ?_⟩ (fun done d rest ρ K e p k => ?_) (fun ρ p => ?_)
    · obtain ⟨y, hy, rfl⟩ := List.mem_map.mp hx
      have := hm y hy
      omega
    · obtain ⟨u, x, y, rfl, hu, hu2⟩ := p
      have hd : d ∈ (rgI m.length).map fun k => PyData.tuple [.int k, .int (m.getD k.toNat 0)] := by rw [e]; simp
      obtain ⟨k1, hk1, rfl⟩ := List.mem_map.mp hd
      obtain ⟨a0, a1⟩ := mem_rgI.mp hk1
      obtain ⟨g0, g1⟩ := hm _ (getD_mem (l := m) (d := 0) (show k1.toNat < m.length by omega))
      walk_at "dd"
      refine ⟨_, _, (m.getD k1.toNat 0).toNat, rfl, rfl, ?_, ?_⟩
      · unfold ixN
        rw [if_pos g0, if_pos (by simp [hu]; exact g1)]
      · refine k _ ⟨u.set (m.getD k1.toNat 0).toNat k1, _, _, (by rw [List.map_set]), (by simp [hu]), ?_⟩
        intro x hx
        rcases List.mem_or_eq_of_mem_set hx with hx | hx
        · exact hu2 x hx
        · subst hx; exact ⟨a0, a1⟩
    · obtain ⟨u, x, y, rfl, hu, hu2⟩ := p
      walk_at "dd"
      exact h u hu hu2
theorem v__law_places_of : VD g__law_places_of S__law_places_of 2 1 := fun ds Q _ h => by
  obtain ⟨c, s, rfl, hs, hc, h⟩ := h
  unfold g__law_places_of
  try walk_at "dd"
  have hc' : c ≤ 1000 := by
    rcases Nat.lt_or_ge 1000 c with z | z
    · have := Nat.mul_le_mul (Nat.succ_le_of_lt z) hs
      omega
    · exact z
  refine ⟨cm_n (by omega) (by omega), ?_⟩
  rw [show ((c : Int) * s) = ((c * s : Nat) : Int) from by simp, rgD_rgI]
  refine ⟨rgd hc, ?_⟩
  refine wpLc_mapL (rgI (c * s)) PyData.int (fun k => .tuple [.int (k / s), .int (k % s)]) (by rw [rgI_len]; omega) rfl (fun x hx K hK => ?_) (fun _ => rfl) ?_
  · try walk_at "dd"
    have s0 : (0 : Int) < s := by omega
    have s1 : (s : Int) ≤ 1000 := by
      rcases Nat.lt_or_ge 0 c with z | z
      · have := Nat.mul_le_mul z (Nat.le_refl s)
        omega
      · have : c = 0 := by omega
        subst this
        simp [rgI] at hx
    exact ⟨cd_t s0 (by omega), s0, by decide, hK _ rfl⟩
  · try walk_at "dd"
    exact h
end Dn
set_option Elab.async false
set_option linter.all false
set_option maxRecDepth 100000
set_option autoImplicit false
set_option maxHeartbeats 4000000
namespace Dn
open PySem L2 Evl PySem.Spec PyProof.Rows
local macro_rules | `(tactic| walk_at "dd") => `(tactic| simp only [sSeq, sIf, sSet, sRet, sRetN, sNx, sEx, sAsg, sPar, dTOr, dTAnd, dTNot, dTst, dIsi, dVar, dC, dBin, dChain, dNeg, dI2, dAnd, dOr, dNot, dIfE, dCall, dCallF, aCons, aNil, dTup, lLst, dOfL, xIm, xOw, gNm, gTp, gsCons, gsNil, dYes, envD, dLen_tR, dLen_tI, dLen_tup, dLen_lst, seq_tR, seq_tI, seq_tup, seq_lst, dIs, dIsNot, dNe, dEq, dTupOf, dSl, oNone, oSome, iSq, iEn, iR1, iR2, sFor, lLc, sNever, dTRg, rg1, rg2, lRg, wipeD, isN, optD,
  dIxP, sSub, dApp, dPopAt, dExt, dCallM, dCallO, dBinO, dTupO, lOf, lOfO, sRetO, iOw, dVarF, lCat, lCall, dAbs, dMax2, dMin2, dInt, atO, setO, MO.getL, MO.putL, Option.isSome_some,
  dInK, dGetK, dGetD, dInD, dGet1, lKeys, lSort, dLenSet, dRevT, sPutK, xDct, xDct1, sRetK, atK, keyD, sAugI,
  kit_int, kit_bool, kit_tuple, kit_str, List.map_cons, List.map_nil, List.cons_append, List.nil_append, List.replicate, List.set_cons_zero, List.set_cons_succ, List.getElem?_cons_zero, List.getElem?_cons_succ, List.length_cons, List.length_nil, List.length_map, Nat.reduceAdd, Nat.reduceSub, Bool.not_true, Bool.not_false, Bool.false_eq_true, if_true, if_false, true_and, reduceCtorEq, Bool.true_eq_false, rgD_rgI, Option.some.injEq, exists_eq_left', and_true])
theorem Mv.dl {n : Nat} {m : List Int} (h : Mv n m) {x : Int} (x0 : 0 ≤ x) (x1 : x < n) : 0 ≤ m.getD x.toNat 0 ∧ m.getD x.toNat 0 < n := h.2 _ (getD_mem (by rw [h.1]; omega))
theorem Mv.ids (n : Nat) : Mv n (rgI n) := ⟨rgI_len n, fun _ h => mem_rgI.mp h⟩
theorem Dw.row {n : Nat} {C : List (List Int)} (h : Dw n C) {x : Int} (x0 : 0 ≤ x) (x1 : x < n) : Mv n (C.getD x.toNat []) := h.2 _ (getD_mem (by rw [h.1]; omega))
theorem ixL {r : List (List Int)} {i : Int} {Q : D → Prop} (h0 : 0 ≤ i) (h1 : i < r.length) (h : Q (tI (r.getD i.toNat []))) : dIx (tL r) (.int i) Q := by
  refine ⟨_, atI_in (d := tI []) h0 (by simpa using h1), ?_⟩
  have h2 : i.toNat < r.length := by omega
  simp [List.getD, List.getElem?_eq_getElem h2] at h ⊢
  exact h
theorem dLen_tL {rs : List (List Int)} {Q : D → Prop} : dLen [tL rs] Q = Q (.int rs.length) := by show Q _ = _; simp
theorem tI_map (l : List Int) (f : Int → Int) : PyData.tuple (l.map fun b => .int (f b)) = tI (l.map f) := by unfold tI; simp only [List.map_map, Function.comp_def]
theorem tL_map {α : Type} (l : List α) (f : α → List Int) : PyData.list (l.map fun b => tI (f b)) = tL (l.map f) := by unfold tL; simp only [List.map_map, Function.comp_def]
theorem v__law_joined : VD g__law_joined S__law_joined 2 1 := fun ds Q _ h => by
  obtain ⟨a, b, n, rfl, ha, hb, hl, h⟩ := h
  unfold g__law_joined
  walk_at "dd"
  refine wpLc_mapL b PyData.int (fun x => .int (a.getD x.toNat 0)) (by omega) rfl (fun x hx K hK => ?_) (fun _ => rfl) ?_
  · obtain ⟨x0, x1⟩ := hb x hx
    try walk_at "dd"
    exact ixI x0 (by rw [ha.1]; exact x1) (hK _ rfl)
  · try walk_at "dd"
    rw [tI_map]
    refine h _ (by simp) fun y hy => ?_
    obtain ⟨x, hx, rfl⟩ := List.mem_map.mp hy
    obtain ⟨x0, x1⟩ := hb x hx
    exact ha.dl x0 x1
theorem v__law_power : VD g__law_power S__law_power 2 2 := fun ds Q _ h => by
  obtain ⟨m, n, k, rfl, hm, hn, hk, h⟩ := h
  unfold g__law_power
  walk_at "dd"
  have ml := hm.1
  refine ⟨rgd (by omega), ?_⟩
  refine ⟨rgd (by omega), ?_⟩
  refine wpFor_inv (fun ρ => ∃ c x, ρ = [some (.im (tI m)), some (.im (.int k)), some (.im (tI c)), x] ∧ Mv n c) ⟨rgI n, _, by rw [ml]; rfl, Mv.ids n⟩ (fun d hd ρ K i k => ?_) (fun ρ i => ?_)
  · obtain ⟨c, x, rfl, hc⟩ := i
    try walk_at "dd"
    have cl := hc.1
    exact ⟨m, c, n, rfl, hm, hc.2, by omega, fun c2 l2 h2 => k _ ⟨c2, _, rfl, by omega, h2⟩⟩
  · obtain ⟨c, x, rfl, hc⟩ := i
    try walk_at "dd"
    exact h c hc
theorem v__law_renamed_dots : VD g__law_renamed_dots S__law_renamed_dots 2 3 := fun ds Q _ h => by
  obtain ⟨C, m, n, rfl, hC, hm, hn, h⟩ := h
  have ml := hm.1
  have cl := hC.1
  unfold g__law_renamed_dots
  walk_at "dd"
  refine ⟨m, rfl, by omega, by rw [ml]; exact hm.2, fun u hu hu2 => ?_⟩
  rw [ml] at hu hu2
  have hu3 : Mv n u := ⟨hu, hu2⟩
  try walk_at "dd"
  refine wpLc_mapL m PyData.int (fun a => tI (m.map fun b => u.getD ((C.getD a.toNat []).getD b.toNat 0).toNat 0)) (by omega) rfl (fun a ha K hK => ?_) (fun _ => rfl) ?_
  · try walk_at "dd"
    obtain ⟨a0, a1⟩ := hm.2 a ha
    have hr := hC.row a0 a1
    refine wpLc_mapL m PyData.int (fun b => .int (u.getD ((C.getD a.toNat []).getD b.toNat 0).toNat 0)) (by omega) rfl (fun b hb K hK => ?_) (fun _ => rfl) ?_
    · try walk_at "dd"
      obtain ⟨b0, b1⟩ := hm.2 b hb
      obtain ⟨p0, p1⟩ := hr.dl b0 b1
      exact ixL a0 (by rw [cl]; exact a1) (ixI b0 (by rw [hr.1]; exact b1) (ixI p0 (by rw [hu]; exact p1) (hK _ rfl)))
    · try walk_at "dd"
      rw [tI_map]
      exact hK _ rfl
  · try walk_at "dd"
    rw [tL_map]
    refine h _ ⟨by simp [ml], fun r hr => ?_⟩
    obtain ⟨a, ha, rfl⟩ := List.mem_map.mp hr
    obtain ⟨a0, a1⟩ := hm.2 a ha
    have hr := hC.row a0 a1
    refine ⟨by simp [ml], fun x hx => ?_⟩
    obtain ⟨b, hb, rfl⟩ := List.mem_map.mp hx
    obtain ⟨b0, b1⟩ := hm.2 b hb
    obtain ⟨p0, p1⟩ := hr.dl b0 b1
    exact hu3.dl p0 p1
end Dn
set_option Elab.async false
set_option linter.all false
set_option maxRecDepth 100000
set_option autoImplicit false
set_option maxHeartbeats 4000000
namespace Dn
open PySem L2 Evl PySem.Spec PyProof.Rows
local macro_rules | `(tactic| walk_at "dd") => `(tactic| simp only [sSeq, sIf, sSet, sRet, sRetN, sNx, sEx, sAsg, sPar, dTOr, dTAnd, dTNot, dTst, dIsi, dVar, dC, dBin, dChain, dNeg, dI2, dAnd, dOr, dNot, dIfE, dCall, dCallF, aCons, aNil, dTup, lLst, dOfL, xIm, xOw, gNm, gTp, gsCons, gsNil, dYes, envD, dLen_tR, dLen_tI, dLen_tup, dLen_lst, seq_tR, seq_tI, seq_tup, seq_lst, dIs, dIsNot, dNe, dEq, dTupOf, dSl, oNone, oSome, iSq, iEn, iR1, iR2, sFor, lLc, sNever, dTRg, rg1, rg2, lRg, wipeD, isN, optD,
  dIxP, sSub, dApp, dPopAt, dExt, dCallM, dCallO, dBinO, dTupO, lOf, lOfO, sRetO, iOw, dVarF, lCat, lCall, dAbs, dMax2, dMin2, dInt, atO, setO, MO.getL, MO.putL, Option.isSome_some,
  dInK, dGetK, dGetD, dInD, dGet1, lKeys, lSort, dLenSet, dRevT, sPutK, xDct, xDct1, sRetK, atK, keyD, sAugI,
  kit_int, kit_bool, kit_tuple, kit_str, List.map_cons, List.map_nil, List.cons_append, List.nil_append, List.replicate, List.set_cons_zero, List.set_cons_succ, List.getElem?_cons_zero, List.getElem?_cons_succ, List.length_cons, List.length_nil, List.length_map, Nat.reduceAdd, Nat.reduceSub, Bool.not_true, Bool.not_false, Bool.false_eq_true, if_true, if_false, true_and, reduceCtorEq, Bool.true_eq_false, rgD_rgI, Option.some.injEq, exists_eq_left', and_true])
theorem atI_zero {α : Type} {x : α} {l : List α} : atI (x :: l) 0 = some x := by
  unfold atI ixN
  simp
theorem rg_get {n : Nat} {a : Int} (a0 : 0 ≤ a) (a1 : a < n) : (rgI n).getD a.toNat 0 = a := by
  have := rgI_get (n := n) (k := a.toNat) (by omega)
  simp [List.getD, this]
  omega
theorem all_id {α : Type} (p : α → Bool) (l : List α) : (l.map p).all id = l.all p := by simp [List.all_map]
theorem eqv_int (i j : Int) : (PyData.int i).eqv (.int j) = decide (i = j) := by
  simp only [PyData.eqv]
  by_cases z : i = j <;> simp [z]
theorem tI_app (r : List Int) (f : List Int) (g : Int → Int) : PyData.tuple (r.map PyData.int ++ f.map fun x => .int (g x)) = tI (r ++ f.map g) := by unfold tI; simp only [List.map_append, List.map_map, Function.comp_def]
theorem tPs_map {α : Type} (l : List α) (f : α → Int × Int) : PyData.tuple (l.map fun x => tP (f x)) = tPs (l.map f) := by unfold tPs; simp only [List.map_map, Function.comp_def]
theorem tRP_map {α : Type} (l : List α) (f : α → List (Int × Int)) : PyData.tuple (l.map fun x => tPs (f x)) = tRP (l.map f) := by unfold tRP; simp only [List.map_map, Function.comp_def]
theorem ixRP {R : List (List (Int × Int))} {i : Int} {Q : D → Prop} (h0 : 0 ≤ i) (h1 : i < R.length) (h : Q (tPs (R.getD i.toNat []))) : dIx (tRP R) (.int i) Q := by
  refine ⟨_, atI_in (d := tPs []) h0 (by simpa using h1), ?_⟩
  have h2 : i.toNat < R.length := by omega
  simp [List.getD, List.getElem?_eq_getElem h2] at h ⊢
  exact h
theorem ixPs {R : List (Int × Int)} {i : Int} {Q : D → Prop} (h0 : 0 ≤ i) (h1 : i < R.length) (h : Q (tP (R.getD i.toNat (0, 0)))) : dIx (tPs R) (.int i) Q := by
  refine ⟨_, atI_in (d := tP (0, 0)) h0 (by simpa using h1), ?_⟩
  have h2 : i.toNat < R.length := by omega
  simp [List.getD, List.getElem?_eq_getElem h2] at h ⊢
  exact h
theorem v__law_union_dots : VD g__law_union_dots S__law_union_dots 4 4 := fun ds Q _ h => by
  obtain ⟨A, C, f, s, a, b, rfl, hA, hC, hf, hs, hl, h⟩ := h
  have al := hA.1
  have cl := hC.1
  unfold g__law_union_dots
  walk_at "dd"
  rw [dLen_tL]
  refine ⟨by decide, ?_⟩
  refine ⟨A.map tI, rfl, ?_⟩
  refine wpFor_ap A tI (fun r => tI (r ++ f.map fun x => (A.length : Int) + x)) (fun acc ρ => ∃ x, ρ = [some (.im (tL A)), some (.im (tL C)), some (.im (tI f)), some (.im (tI s)), some (.im (.int A.length)), some (.ow (.lst acc)), x, none]) ⟨_, rfl⟩ (fun r hr acc ρ K p q k => ?_) (fun ρ p => ?_)
  · obtain ⟨x, rfl⟩ := p
    have rl := (hA.2 r hr).1
    have fl := hf.1
    try walk_at "dd"
    refine wpLc_mapL f PyData.int (fun x => .int ((A.length : Int) + x)) (by omega) rfl (fun x hx K hK => ?_) (fun _ => rfl) ?_
    · try walk_at "dd"
      exact hK _ rfl
    · try walk_at "dd"
      refine And.intro (by simp; omega) ?_
      try walk_at "dd"
      refine ⟨by omega, ?_⟩
      rw [tI_app]
      exact k _ ⟨_, rfl⟩
  · obtain ⟨x, rfl⟩ := p
    try walk_at "dd"
    refine ⟨C.map tI, rfl, ?_⟩
    refine wpFor_ap C tI (fun r => tI (s ++ r.map fun x => (A.length : Int) + x)) (fun acc ρ => ∃ x, ρ = [some (.im (tL A)), some (.im (tL C)), some (.im (tI f)), some (.im (tI s)), some (.im (.int A.length)), some (.ow (.lst (A.map (fun r => tI (r ++ f.map fun x => (A.length : Int) + x)) ++ acc))), x, none]) ⟨_, by simp; rfl⟩ (fun r hr acc ρ K p q k => ?_) (fun ρ p => ?_)
    · obtain ⟨x, rfl⟩ := p
      have rl := (hC.2 r hr).1
      have sl := hs.1
      try walk_at "dd"
      refine wpLc_mapL r PyData.int (fun x => .int ((A.length : Int) + x)) (by omega) rfl (fun x hx K hK => ?_) (fun _ => rfl) ?_
      · try walk_at "dd"
        exact hK _ rfl
      · try walk_at "dd"
        refine And.intro (by simp; omega) ?_
        try walk_at "dd"
        refine ⟨by simp; omega, ?_⟩
        rw [tI_app, List.append_assoc]
        exact k _ ⟨_, rfl⟩
    · obtain ⟨x, rfl⟩ := p
      try walk_at "dd"
      have e : PyData.list (A.map (fun r => tI (r ++ f.map fun x => (A.length : Int) + x)) ++ C.map (fun r => tI (s ++ r.map fun x => (A.length : Int) + x))) = tL (A.map (fun r => r ++ f.map fun x => (A.length : Int) + x) ++ C.map fun r => s ++ r.map fun x => (A.length : Int) + x) := by
        unfold tL; simp only [List.map_append, List.map_map, Function.comp_def]
      rw [e]
      refine h _ ⟨by simp; omega, fun r hr => ?_⟩
      rcases List.mem_append.mp hr with hr | hr
      · obtain ⟨r0, h0, rfl⟩ := List.mem_map.mp hr
        have h1 := hA.2 r0 h0
        refine ⟨by simp [h1.1, hf.1], fun x hx => ?_⟩
        rcases List.mem_append.mp hx with hx | hx
        · have := h1.2 x hx; omega
        · obtain ⟨y, hy, rfl⟩ := List.mem_map.mp hx
          have := hf.2 y hy; omega
      · obtain ⟨r0, h0, rfl⟩ := List.mem_map.mp hr
        have h1 := hC.2 r0 h0
        refine ⟨by simp [h1.1, hs.1], fun x hx => ?_⟩
        rcases List.mem_append.mp hx with hx | hx
        · have := hs.2 x hx; omega
        · obtain ⟨y, hy, rfl⟩ := List.mem_map.mp hx
          have := h1.2 y hy; omega
theorem v__law_rows_of_dots : VD g__law_rows_of_dots S__law_rows_of_dots 1 6 := fun ds Q _ h => by
  obtain ⟨C, n, rfl, hC, hn, h⟩ := h
  have cl := hC.1
  unfold g__law_rows_of_dots
  walk_at "dd"
  rw [dLen_tL]
  refine ⟨by decide, ?_⟩
  refine ⟨C.map tI, rfl, ?_⟩
  refine wpLc_all (fun d => ∃ m : List Int, d = tI m ∧ Mv n m) (fun ρ => ρ = [some (.im (tL C)), some (.im (.int C.length)), some (.ow (.lst [])), none, none, none, none]) rfl (by simp; omega) (fun d hd ρ K i k => ?_) (fun _ => rfl) (fun acc ρ al ag i => ?_)
  · subst i
    obtain ⟨r, hr, rfl⟩ := List.mem_map.mp hd
    have hr := hC.2 r hr
    try walk_at "dd"
    refine ⟨r, rfl, by rw [hr.1]; omega, by rw [hr.1]; exact hr.2, fun u hu hu2 => ?_⟩
    rw [hr.1] at hu hu2
    exact k _ _ ⟨u, rfl, hu, hu2⟩ rfl
  · subst i
    obtain ⟨L, rfl, hL⟩ := all_map ag
    have ll : L.length = n := by simp at al; omega
    try walk_at "dd"
    rw [cl]
    refine ⟨rgd (by omega), ?_⟩
    have hLr : ∀ x : Int, 0 ≤ x → x < n → Mv n (L.getD x.toNat []) := fun x x0 x1 => hL _ (getD_mem (by omega))
    refine wpFor_ap (rgI n) PyData.int (fun x => tPs ((rgI n).map fun y => ((L.getD x.toNat []).getD y.toNat 0, (C.getD ((L.getD x.toNat []).getD y.toNat 0).toNat []).getD x.toNat 0))) (fun acc ρ => ∃ z, ρ = [some (.im (tL C)), some (.im (.int n)), some (.ow (.lst acc)), some (.im (.list (L.map tI))), z, none, none]) ⟨_, rfl⟩ (fun x hx acc ρ K p q k => ?_) (fun ρ p => ?_)
    · obtain ⟨z, rfl⟩ := p
      obtain ⟨x0, x1⟩ := mem_rgI.mp hx
      rw [rgI_len] at q
      try walk_at "dd"
      refine ⟨rgd (by omega), ?_⟩
      refine wpLc_mapL (rgI n) PyData.int (fun y => tP ((L.getD x.toNat []).getD y.toNat 0, (C.getD ((L.getD x.toNat []).getD y.toNat 0).toNat []).getD x.toNat 0)) (by rw [rgI_len]; omega) rfl (fun y hy K hK => ?_) (fun _ => rfl) ?_
      · obtain ⟨y0, y1⟩ := mem_rgI.mp hy
        have hr := hLr x x0 x1
        obtain ⟨p0, p1⟩ := hr.dl y0 y1
        try walk_at "dd"
        refine ixL (r := L) x0 (by rw [ll]; exact x1) (ixI y0 (by rw [hr.1]; exact y1) (ixL (r := L) x0 (by rw [ll]; exact x1) (ixI y0 (by rw [hr.1]; exact y1) (ixL p0 (by rw [cl]; exact p1) (ixI x0 (by rw [(hC.row p0 p1).1]; exact x1) ⟨by decide, hK _ rfl⟩)))))
      · try walk_at "dd"
        refine ⟨by omega, ?_⟩
        rw [tPs_map]
        exact k _ ⟨_, rfl⟩
    · obtain ⟨z, rfl⟩ := p
      try walk_at "dd"
      rw [tRP_map]
      refine h _ ⟨by simp [rgI_len], fun r hr => ?_⟩
      obtain ⟨x, hx, rfl⟩ := List.mem_map.mp hr
      obtain ⟨x0, x1⟩ := mem_rgI.mp hx
      refine ⟨by simp [rgI_len], fun p hp => ?_⟩
      obtain ⟨y, hy, rfl⟩ := List.mem_map.mp hp
      obtain ⟨y0, y1⟩ := mem_rgI.mp hy
      obtain ⟨p0, p1⟩ := (hLr x x0 x1).dl y0 y1
      exact ⟨⟨p0, p1⟩, (hC.row p0 p1).dl x0 x1⟩
theorem v__law_renamed_rows : VD g__law_renamed_rows S__law_renamed_rows 2 4 := fun ds Q _ h => by
  obtain ⟨R, m, n, rfl, hR, hm, hn, h⟩ := h
  have ml := hm.1
  unfold g__law_renamed_rows
  walk_at "dd"
  refine ⟨m, rfl, by omega, by rw [ml]; exact hm.2, fun u hu hu2 => ?_⟩
  rw [ml] at hu hu2
  have hu3 : Mv n u := ⟨hu, hu2⟩
  try walk_at "dd"
  refine ⟨by decide, ?_⟩
  refine wpFor_ap m PyData.int (fun x => tPs (m.map fun y => (u.getD ((R.getD x.toNat []).getD y.toNat (0, 0)).1.toNat 0, u.getD ((R.getD x.toNat []).getD y.toNat (0, 0)).2.toNat 0))) (fun acc ρ => ∃ z, ρ = [some (.im (tRP R)), some (.im (tI m)), some (.im (tI u)), some (.ow (.lst acc)), z, none]) ⟨_, rfl⟩ (fun x hx acc ρ K p q k => ?_) (fun ρ p => ?_)
  · obtain ⟨z, rfl⟩ := p
    obtain ⟨x0, x1⟩ := hm.2 x hx
    obtain ⟨rl, hr⟩ := hR.2 _ (getD_mem (d := []) (show x.toNat < R.length by rw [hR.1]; omega))
    try walk_at "dd"
    refine wpLc_mapL m PyData.int (fun y => tP (u.getD ((R.getD x.toNat []).getD y.toNat (0, 0)).1.toNat 0, u.getD ((R.getD x.toNat []).getD y.toNat (0, 0)).2.toNat 0)) (by omega) rfl (fun y hy K hK => ?_) (fun _ => rfl) ?_
    · obtain ⟨y0, y1⟩ := hm.2 y hy
      obtain ⟨⟨p0, p1⟩, p2, p3⟩ := hr _ (getD_mem (d := (0, 0)) (show y.toNat < (R.getD x.toNat []).length by rw [rl]; omega))
      try walk_at "dd"
      refine ixRP x0 (by rw [hR.1]; exact x1) (ixPs y0 (by rw [rl]; exact y1) ⟨_, atI_zero, ixI p0 (by rw [hu]; exact p1) (ixRP x0 (by rw [hR.1]; exact x1) (ixPs y0 (by rw [rl]; exact y1) ⟨_, rfl, ixI p2 (by rw [hu]; exact p3) ⟨by decide, hK _ rfl⟩⟩))⟩)
    · try walk_at "dd"
      refine ⟨by omega, ?_⟩
      rw [tPs_map]
      exact k _ ⟨_, rfl⟩
  · obtain ⟨z, rfl⟩ := p
    try walk_at "dd"
    rw [tRP_map]
    refine h _ ⟨by simp [ml], fun r hr => ?_⟩
    obtain ⟨x, hx, rfl⟩ := List.mem_map.mp hr
    obtain ⟨x0, x1⟩ := hm.2 x hx
    obtain ⟨rl, hr⟩ := hR.2 _ (getD_mem (d := []) (show x.toNat < R.length by rw [hR.1]; omega))
    refine ⟨by simp [ml], fun p hp => ?_⟩
    obtain ⟨y, hy, rfl⟩ := List.mem_map.mp hp
    obtain ⟨y0, y1⟩ := hm.2 y hy
    obtain ⟨⟨p0, p1⟩, p2, p3⟩ := hr _ (getD_mem (d := (0, 0)) (show y.toNat < (R.getD x.toNat []).length by rw [rl]; omega))
    exact ⟨hu3.dl p0 p1, hu3.dl p2 p3⟩
theorem v__law_keeps_dots : VD g__law_keeps_dots S__law_keeps_dots 2 5 := fun ds Q _ h => by
  obtain ⟨C, m, n, rfl, hC, hm, hn, h⟩ := h
  unfold g__law_keeps_dots
  walk_at "dd"
  refine ⟨C.map tI, rfl, ?_⟩
  have cl := hC.1
  have ml := hm.1
  rw [enD_map C tI [], cl]
  refine wpFor_inv (fun ρ => ∃ x1 x2 x3 x4 x5, ρ = [some (.im (tL C)), some (.im (tI m)), x1, x2, x3, x4, x5]) ⟨_, _, _, _, _, rfl⟩ (fun d hd ρ K i k => ?_) (fun ρ i => ?_)
  · obtain ⟨x1, x2, x3, x4, x5, rfl⟩ := i
    obtain ⟨x, hx, rfl⟩ := List.mem_map.mp hd
    obtain ⟨x0, x1⟩ := mem_rgI.mp hx
    obtain ⟨g0, g1⟩ := hm.dl x0 x1
    have hr := hC.row x0 x1
    have hg := hC.row g0 g1
    try walk_at "dd"
    refine ixI x0 (by rw [ml]; exact x1) (ixL g0 (by rw [cl]; exact g1) ?_)
    try walk_at "dd"
    rw [enD_map (C.getD x.toNat []) PyData.int 0, hr.1]
    refine wpLc_mapL (rgI n) (fun j => .tuple [.int j, .int ((C.getD x.toNat []).getD j.toNat 0)]) (fun j => .bool (decide (m.getD ((C.getD x.toNat []).getD j.toNat 0).toNat 0 = (C.getD (m.getD x.toNat 0).toNat []).getD (m.getD j.toNat 0).toNat 0))) (by rw [rgI_len]; omega) rfl (fun j hj K hK => ?_) (fun _ => rfl) ?_
    · obtain ⟨j0, j1⟩ := mem_rgI.mp hj
      obtain ⟨p0, p1⟩ := hr.dl j0 j1
      obtain ⟨q0, q1⟩ := hm.dl j0 j1
      try walk_at "dd"
      refine ixI p0 (by rw [ml]; exact p1) (ixI j0 (by rw [ml]; exact j1) (ixI q0 (by rw [hg.1]; exact q1) ⟨rfl, rfl, ?_⟩))
      rw [eqv_int]
      exact hK _ rfl
    · try walk_at "dd"
      refine ⟨(rgI n).map fun j => decide (m.getD ((C.getD x.toNat []).getD j.toNat 0).toNat 0 = (C.getD (m.getD x.toNat 0).toNat []).getD (m.getD j.toNat 0).toNat 0), by rw [List.map_map]; rfl, ?_⟩
      dsimp only
      rw [all_id]
      refine ite_ways (fun z => h false fun e => ?_) (fun z => k _ ⟨_, _, _, _, _, rfl⟩)
      exfalso
      have : ((rgI n).all fun j => decide (m.getD ((C.getD x.toNat []).getD j.toNat 0).toNat 0 = (C.getD (m.getD x.toNat 0).toNat []).getD (m.getD j.toNat 0).toNat 0)) = true := by
        rw [List.all_eq_true]
        intro j hj
        obtain ⟨j0, j1⟩ := mem_rgI.mp hj
        obtain ⟨p0, p1⟩ := hr.dl j0 j1
        rw [decide_eq_true_eq, e, rg_get p0 p1, rg_get x0 x1, rg_get j0 j1]
      rw [this] at z
      exact absurd z (by decide)
  · obtain ⟨x1, x2, x3, x4, x5, rfl⟩ := i
    try walk_at "dd"
    exact h true fun _ => rfl
end Dn
set_option Elab.async false
set_option linter.all false
set_option maxRecDepth 100000
set_option autoImplicit false
set_option maxHeartbeats 4000000
namespace Dn
open PySem L2 Evl PySem.Spec PyProof.Rows
local macro_rules | `(tactic| walk_at "dd") => `(tactic| simp only [sSeq, sIf, sSet, sRet, sRetN, sNx, sEx, sAsg, sPar, dTOr, dTAnd, dTNot, dTst, dIsi, dVar, dC, dBin, dChain, dNeg, dI2, dAnd, dOr, dNot, dIfE, dCall, dCallF, aCons, aNil, dTup, lLst, dOfL, xIm, xOw, gNm, gTp, gsCons, gsNil, dYes, envD, dLen_tR, dLen_tI, dLen_tup, dLen_lst, seq_tR, seq_tI, seq_tup, seq_lst, dIs, dIsNot, dNe, dEq, dTupOf, dSl, oNone, oSome, iSq, iEn, iR1, iR2, sFor, lLc, sNever, dTRg, rg1, rg2, lRg, wipeD, isN, optD,
  dIxP, sSub, dApp, dPopAt, dExt, dCallM, dCallO, dBinO, dTupO, lOf, lOfO, sRetO, iOw, dVarF, lCat, lCall, dAbs, dMax2, dMin2, dInt, atO, setO, MO.getL, MO.putL, Option.isSome_some,
  dInK, dGetK, dGetD, dInD, dGet1, lKeys, lSort, dLenSet, dRevT, sPutK, xDct, xDct1, sRetK, atK, keyD, sAugI,
  kit_int, kit_bool, kit_tuple, kit_str, List.map_cons, List.map_nil, List.cons_append, List.nil_append, List.replicate, List.set_cons_zero, List.set_cons_succ, List.getElem?_cons_zero, List.getElem?_cons_succ, List.length_cons, List.length_nil, List.length_map, Nat.reduceAdd, Nat.reduceSub, Bool.not_true, Bool.not_false, Bool.false_eq_true, if_true, if_false, true_and, reduceCtorEq, Bool.true_eq_false, rgD_rgI, Option.some.injEq, exists_eq_left', and_true])
theorem map_int_inj : ∀ {a b : List Int}, a.map PyData.int = b.map PyData.int → a = b
  | [], [], _ => rfl
  | [], _ :: _, h => by cases h
  | _ :: _, [], h => by cases h
  | x :: a, y :: b, h => by
    simp only [List.map_cons, List.cons.injEq, PyData.int.injEq] at h
    rw [h.1, map_int_inj h.2]
theorem tI_inj {a b : List Int} (h : tI a = tI b) : a = b := by
  unfold tI at h
  simp only [PyData.tuple.injEq] at h
  exact map_int_inj h
theorem any_eqv (m : List Int) (x : Int) : ((m.map PyData.int).any fun z => PyData.eqv z (.int x)) = decide (x ∈ m) := by
  rw [List.any_map]
  induction m with
  | nil => simp
  | cons y m ih =>
    rw [List.any_cons, ih]
    simp only [Function.comp, eqv_int, List.mem_cons]
    by_cases z : y = x
    · simp [z]
    · have : ¬ x = y := fun e => z e.symm
      simp [z, this]
theorem all_sc (m : List Int) : (m.map PyData.int).all isSc = true := by simp [List.all_map, isSc]
theorem v__law_orders : VD g__law_orders S__law_orders 1 5 := fun ds Q _ h => by
  obtain ⟨n, rfl, hn, h⟩ := h
  unfold g__law_orders
  walk_at "dd"
  refine ⟨by decide, by decide, rgd (by omega), ?_⟩
  refine wpFor_cps (fun done ρ => ∃ (ms : List (List Int)) (x2 x3 x4 x5 : Option SV), ρ = [some (.im (.int n)), some (.im (tL ms)), x2, x3, x4, x5] ∧ (∀ m, m ∈ ms → m.length = done.length ∧ ∀ x, x ∈ m → 0 ≤ x ∧ x < n) ∧ rgI done.length ∈ ms ∧ ms.length ≤ 5 ^ done.length) ⟨[[]], _, _, _, _, rfl, by simp, by simp [rgI], by simp⟩ (fun done d rest ρ K e p k => ?_) (fun ρ p => ?_)
  · obtain ⟨ms, x2, x3, x4, x5, rfl, hm, hp, hl⟩ := p
    have el := congrArg List.length e
    simp [rgI_len] at el
    simp only [List.length_append, List.length_cons, List.length_nil, Nat.zero_add] at k
    generalize done.length = j at hm hp hl el k
    have h5 : 5 ^ j ≤ 625 := Nat.le_trans (Nat.pow_le_pow_right (by decide) (show j ≤ 4 by omega)) (by decide)
    try walk_at "dd"
    refine ⟨by decide, ms.map tI, rfl, ?_⟩
    refine wpFor_cps (fun done2 ρ => ∃ (L : List (List Int)) (x4 x5 : Option SV), ρ = [some (.im (.int n)), some (.im (tL ms)), some (.im d), some (.ow (.lst (L.map tI))), x4, x5] ∧ (∀ m, m ∈ L → m.length = j + 1 ∧ ∀ x, x ∈ m → 0 ≤ x ∧ x < n) ∧ L.length ≤ 5 * done2.length ∧ ∀ m, tI m ∈ done2 → ∀ x : Int, 0 ≤ x → x < n → x ∉ m → m ++ [x] ∈ L) ⟨[], _, _, rfl, by simp, by simp, by simp⟩ (fun done2 d2 rest2 ρ K2 e2 p2 k2 => ?_) (fun ρ p2 => ?_)
    · obtain ⟨L, x4, x5, rfl, hL, lL, hx⟩ := p2
      have hd2 : d2 ∈ ms.map tI := by rw [e2]; simp
      obtain ⟨m, hmm, rfl⟩ := List.mem_map.mp hd2
      have el2 := congrArg List.length e2
      simp at el2
      obtain ⟨m1, m2⟩ := hm m hmm
      try walk_at "dd"
      refine ⟨rgd (by omega), ?_⟩
      refine wpLc_filL (rgI n) PyData.int (fun x => tI (m ++ [x])) (fun x => !decide (x ∈ m)) (by rw [rgI_len]; omega) rfl (fun x hxn K N hK hN => ?_) ?_
      · try walk_at "dd"
        refine ⟨m.map PyData.int, rfl, rfl, all_sc m, ?_⟩
        rw [any_eqv]
        refine ite_ways (fun z => ⟨by decide, by simp; omega, ?_⟩) (fun z => hN z _ rfl)
        show K (PyData.tuple (m.map PyData.int ++ [.int x])) _
        rw [show PyData.tuple (m.map PyData.int ++ [.int x]) = tI (m ++ [x]) from by unfold tI; simp]
        exact hK z _ rfl
      · try walk_at "dd"
        have fl : ((rgI n).filter fun x => !decide (x ∈ m)).length ≤ 5 := Nat.le_trans (List.length_filter_le _ _) (by rw [rgI_len]; omega)
        refine ⟨_, _, rfl, rfl, by simp only [List.length_map]; omega, ?_⟩
        refine k2 _ ⟨L ++ ((rgI n).filter fun x => !decide (x ∈ m)).map fun x => m ++ [x], some (.im (tI m)), none, ?_, fun y hy => ?_, ?_, fun y hy x x0 x1 xn => ?_⟩
        · rw [List.map_append, List.map_map]; rfl
        · rcases List.mem_append.mp hy with hy | hy
          · exact hL y hy
          · obtain ⟨x, hx, rfl⟩ := List.mem_map.mp hy
            have hx := mem_rgI.mp (List.mem_filter.mp hx).1
            refine ⟨by simp [m1], fun z hz => ?_⟩
            rcases List.mem_append.mp hz with hz | hz
            · exact m2 z hz
            · rw [List.mem_singleton.mp hz]; exact hx
        · simp only [List.length_append, List.length_map, List.length_cons, List.length_nil]; omega
        · rcases List.mem_append.mp hy with hy | hy
          · exact List.mem_append_left _ (hx y hy x x0 x1 xn)
          · obtain rfl := tI_inj (List.mem_singleton.mp hy)
            refine List.mem_append_right _ (List.mem_map.mpr ⟨x, List.mem_filter.mpr ⟨mem_rgI.mpr ⟨x0, x1⟩, by simpa using xn⟩, rfl⟩)
    · obtain ⟨L, x4, x5, rfl, hL, lL, hx⟩ := p2
      try walk_at "dd"
      refine k _ ⟨L, _, _, _, _, rfl, hL, ?_, ?_⟩
      · rw [rgI_succ]
        exact hx _ (List.mem_map.mpr ⟨_, hp, rfl⟩) j (by omega) (by omega) fun z => by have := mem_rgI.mp z; omega
      · rw [List.length_map] at lL
        rw [Nat.pow_succ]; omega
  · obtain ⟨ms, x2, x3, x4, x5, rfl, hm, hp, hl⟩ := p
    simp only [List.length_map, rgI_len] at hm hp hl
    have h5 : 5 ^ n ≤ 625 := Nat.le_trans (Nat.pow_le_pow_right (by decide) hn) (by decide)
    try walk_at "dd"
    exact h ms hm hp (by omega)
theorem v__law_dots_likenesses : VD g__law_dots_likenesses S__law_dots_likenesses 1 1 := fun ds Q _ h => by
  obtain ⟨C, n, rfl, hC, hn, h⟩ := h
  have cl := hC.1
  unfold g__law_dots_likenesses
  walk_at "dd"
  rw [dLen_tL, cl]
  refine ⟨n, rfl, hn, fun ms hm hi hl => ?_⟩
  try walk_at "dd"
  refine ⟨ms.map tI, rfl, ?_⟩
  refine wpLc_cps (fun done acc ρ => ρ = [some (.im (tL C)), none] ∧ ∃ L : List (List Int), acc = L.map tI ∧ (∀ m, m ∈ L → Mv n m) ∧ (tI (rgI n) ∈ done → L ≠ []) ∧ L.length ≤ done.length) ⟨rfl, [], rfl, by simp, by simp, by simp⟩ (fun done d rest acc ρ K e p k => ?_) (fun acc ρ p => ?_)
  · obtain ⟨rfl, L, rfl, hL, hne, ll⟩ := p
    have hd : d ∈ ms.map tI := by rw [e]; simp
    obtain ⟨m, hmm, rfl⟩ := List.mem_map.mp hd
    have el := congrArg List.length e
    simp at el
    refine ⟨by simp; omega, ?_⟩
    try walk_at "dd"
    refine ⟨C, m, n, rfl, hC, hm m hmm, by omega, fun b hb => ?_⟩
    cases b with
    | true =>
      try walk_at "dd"
      refine k _ _ ⟨rfl, L ++ [m], by simp, fun y hy => ?_, fun _ => by simp, by simp; omega⟩
      rcases List.mem_append.mp hy with hy | hy
      · exact hL y hy
      · rw [List.mem_singleton.mp hy]; exact hm m hmm
    | false =>
      try walk_at "dd"
      refine k _ _ ⟨rfl, L, rfl, hL, fun hy => ?_, by simp; omega⟩
      rcases List.mem_append.mp hy with hy | hy
      · exact hne hy
      · have := hb (tI_inj (List.mem_singleton.mp hy)).symm
        cases this
  · obtain ⟨rfl, L, rfl, hL, hne, ll⟩ := p
    rw [List.length_map] at ll
    try walk_at "dd"
    exact h L hL (hne (List.mem_map.mpr ⟨_, hi, rfl⟩)) (by omega)
instance (n : Nat) (m : List Int) : Decidable (Mv n m) := by unfold Mv; infer_instance
instance (n : Nat) (C : List (List Int)) : Decidable (Dw n C) := by unfold Dw; infer_instance
end Dn
set_option Elab.async false
set_option linter.all false
set_option maxRecDepth 100000
set_option autoImplicit false
set_option maxHeartbeats 4000000
namespace Dn
open PySem L2 Evl PySem.Spec PyProof.Rows
local macro_rules | `(tactic| walk_at "dd") => `(tactic| simp only [sSeq, sIf, sSet, sRet, sRetN, sNx, sEx, sAsg, sPar, dTOr, dTAnd, dTNot, dTst, dIsi, dVar, dC, dBin, dChain, dNeg, dI2, dAnd, dOr, dNot, dIfE, dCall, dCallF, aCons, aNil, dTup, lLst, dOfL, xIm, xOw, gNm, gTp, gsCons, gsNil, dYes, envD, dLen_tR, dLen_tI, dLen_tup, dLen_lst, seq_tR, seq_tI, seq_tup, seq_lst, dIs, dIsNot, dNe, dEq, dTupOf, dSl, oNone, oSome, iSq, iEn, iR1, iR2, sFor, lLc, sNever, dTRg, rg1, rg2, lRg, wipeD, isN, optD,
  dIxP, sSub, dApp, dPopAt, dExt, dCallM, dCallO, dBinO, dTupO, lOf, lOfO, sRetO, iOw, dVarF, lCat, lCall, dAbs, dMax2, dMin2, dInt, atO, setO, MO.getL, MO.putL, Option.isSome_some,
  dInK, dGetK, dGetD, dInD, dGet1, lKeys, lSort, dLenSet, dRevT, sPutK, xDct, xDct1, sRetK, atK, keyD, sAugI,
  kit_int, kit_bool, kit_tuple, kit_str, List.map_cons, List.map_nil, List.cons_append, List.nil_append, List.replicate, List.set_cons_zero, List.set_cons_succ, List.getElem?_cons_zero, List.getElem?_cons_succ, List.length_cons, List.length_nil, List.length_map, Nat.reduceAdd, Nat.reduceSub, Bool.not_true, Bool.not_false, Bool.false_eq_true, if_true, if_false, true_and, reduceCtorEq, Bool.true_eq_false, rgD_rgI, Option.some.injEq, exists_eq_left', and_true])
theorem dv_ok {k : Int} {c s : Nat} (hk : k ∈ rgI (c * s)) (h : 1 ≤ s) : (0 ≤ k / s ∧ k / s < c) ∧ 0 ≤ k % s ∧ k % s < s := by
  obtain ⟨k0, k1⟩ := mem_rgI.mp hk
  have s0 : (0 : Int) < s := by omega
  exact ⟨⟨Int.ediv_nonneg k0 (by omega), Int.ediv_lt_of_lt_mul s0 (by simpa using k1)⟩, Int.emod_nonneg _ (by omega), Int.emod_lt_of_pos _ s0⟩
theorem lt_mul {x y c s : Int} (h0 : 0 ≤ x) (h1 : x < c) (h2 : 0 ≤ y) (h3 : y < s) : 0 ≤ x * s + y ∧ x * s + y < c * s := by
  have a := Int.mul_nonneg h0 (show (0 : Int) ≤ s by omega)
  have b := Int.mul_le_mul_of_nonneg_right (show x + 1 ≤ c by omega) (show (0 : Int) ≤ s by omega)
  rw [Int.add_mul] at b
  omega
theorem v__law_product_dots : VD g__law_product_dots S__law_product_dots 2 9 := fun ds Q _ h => by
  obtain ⟨A, C, a, b, rfl, hA, hC, c1, hl, h⟩ := h
  have al := hA.1
  have cl := hC.1
  unfold g__law_product_dots
  walk_at "dd"
  rw [dLen_tL]
  refine ⟨by decide, ?_⟩
  rw [dLen_tL, al, cl]
  refine ⟨a, b, rfl, c1, by omega, ?_⟩
  dsimp only
  refine ⟨_, rfl, ?_⟩
  refine wpFor_ap (rgI (a * b)) (fun k => .tuple [.int (k / b), .int (k % b)]) (fun k : Int => tI ((rgI (a * b)).map fun j : Int => (A.getD (k / b).toNat []).getD (j / b).toNat 0 * b + (C.getD (k % b).toNat []).getD (j % b).toNat 0)) (fun acc ρ => ∃ x1 x2 x3 x4 x5 x6, ρ = [some (.im (tL A)), some (.im (tL C)), some (.im (.int b)), some (.ow (.lst acc)), some (.im (.list ((rgI (a * b)).map fun k => .tuple [.int (k / b), .int (k % b)]))), x1, x2, x3, x4, x5, x6]) ⟨_, _, _, _, _, _, rfl⟩ (fun k hk acc ρ K p q r => ?_) (fun ρ p => ?_)
  · obtain ⟨x1, x2, x3, x4, x5, x6, rfl⟩ := p
    try walk_at "dd"
    obtain ⟨⟨k0, k1⟩, k2, k3⟩ := dv_ok hk c1
    rw [rgI_len] at q
    refine ixL k0 (by rw [al]; exact k1) (ixL k2 (by rw [cl]; exact k3) ?_)
    have hr := hA.row k0 k1
    have hs := hC.row k2 k3
    refine wpLc_mapL (rgI (a * b)) (fun k => .tuple [.int (k / b), .int (k % b)]) (fun j => .int ((A.getD (k / b).toNat []).getD (j / b).toNat 0 * b + (C.getD (k % b).toNat []).getD (j % b).toNat 0)) (by rw [rgI_len]; omega) rfl (fun j hj K hK => ?_) (fun _ => rfl) ?_
    · try walk_at "dd"
      obtain ⟨⟨j0, j1⟩, j2, j3⟩ := dv_ok hj c1
      refine ixI j0 (by rw [hr.1]; exact j1) ?_
      obtain ⟨p0, p1⟩ := hr.dl j0 j1
      have a24 : a ≤ 24 := Nat.le_trans (Nat.le_mul_of_pos_right a c1) hl
      refine ⟨cm_n p0 (by omega), ?_⟩
      exact ixI j2 (by rw [hs.1]; exact j3) (hK _ rfl)
    · try walk_at "dd"
      refine ⟨by omega, ?_⟩
      rw [tI_map]
      exact r _ ⟨_, _, _, _, _, _, rfl⟩
  · obtain ⟨x1, x2, x3, x4, x5, x6, rfl⟩ := p
    try walk_at "dd"
    rw [tL_map]
    refine h _ ⟨by simp [rgI_len], fun r hr => ?_⟩
    obtain ⟨k, hk, rfl⟩ := List.mem_map.mp hr
    obtain ⟨⟨k0, k1⟩, k2, k3⟩ := dv_ok hk c1
    refine ⟨by simp [rgI_len], fun x hx => ?_⟩
    obtain ⟨j, hj, rfl⟩ := List.mem_map.mp hx
    obtain ⟨⟨j0, j1⟩, j2, j3⟩ := dv_ok hj c1
    obtain ⟨p0, p1⟩ := (hA.row k0 k1).dl j0 j1
    obtain ⟨q0, q1⟩ := (hC.row k2 k3).dl j2 j3
    have := lt_mul p0 p1 q0 q1
    simpa using this
end Dn
set_option Elab.async false
set_option linter.all false
set_option maxRecDepth 100000
set_option autoImplicit false
set_option maxHeartbeats 4000000
namespace Dn
open PySem L2 Evl PySem.Spec PyProof.Rows
local macro_rules | `(tactic| walk_at "dd") => `(tactic| simp only [sSeq, sIf, sSet, sRet, sRetN, sNx, sEx, sAsg, sPar, dTOr, dTAnd, dTNot, dTst, dIsi, dVar, dC, dBin, dChain, dNeg, dI2, dAnd, dOr, dNot, dIfE, dCall, dCallF, aCons, aNil, dTup, lLst, dOfL, xIm, xOw, gNm, gTp, gsCons, gsNil, dYes, envD, dLen_tR, dLen_tI, dLen_tup, dLen_lst, seq_tR, seq_tI, seq_tup, seq_lst, dIs, dIsNot, dNe, dEq, dTupOf, dSl, oNone, oSome, iSq, iEn, iR1, iR2, sFor, lLc, sNever, dTRg, rg1, rg2, lRg, wipeD, isN, optD,
  dIxP, sSub, dApp, dPopAt, dExt, dCallM, dCallO, dBinO, dTupO, lOf, lOfO, sRetO, iOw, dVarF, lCat, lCall, dAbs, dMax2, dMin2, dInt, atO, setO, MO.getL, MO.putL, Option.isSome_some,
  dInK, dGetK, dGetD, dInD, dGet1, lKeys, lSort, dLenSet, dRevT, sPutK, xDct, xDct1, sRetK, atK, keyD, sAugI,
  kit_int, kit_bool, kit_tuple, kit_str, List.map_cons, List.map_nil, List.cons_append, List.nil_append, List.replicate, List.set_cons_zero, List.set_cons_succ, List.getElem?_cons_zero, List.getElem?_cons_succ, List.length_cons, List.length_nil, List.length_map, Nat.reduceAdd, Nat.reduceSub, Bool.not_true, Bool.not_false, Bool.false_eq_true, if_true, if_false, true_and, reduceCtorEq, Bool.true_eq_false, rgD_rgI, Option.some.injEq, exists_eq_left', and_true])
theorem v__law_small_dots : VM g__law_small_dots S__law_small_dots 2 4 := fun l ms ds Q _ h => by
  obtain ⟨most, rfl, m1, m2, hm, h⟩ := h
  unfold g__law_small_dots
  walk_at "dd"
  refine ⟨6, rfl, by decide, by decide, hm, fun way ms1 w0 w1 hm1 => ?_⟩
  try walk_at "dd"
  by_cases h3 : (3 : Int) < most
  · by_cases z0 : way = 0
    · simp only [eqv_int, decide_eq_true_eq, h3, z0, if_true, shaped_int, true_and]
      exact ⟨by decide, by decide, by decide, by decide, by decide, _, rfl, h [[0, 1, 3, 2], [2, 3, 1, 0], [1, 0, 2, 3], [3, 2, 0, 1]] 4 _ (by decide) (by decide) (by omega) hm1⟩
    · by_cases z1 : way = 1
      · simp only [eqv_int, decide_eq_true_eq, h3, z1, if_true, shaped_int, true_and, show ¬ (1 : Int) = 0 by decide, if_false]
        exact ⟨by decide, by decide, by decide, by decide, by decide, _, rfl, h [[1, 0, 2, 3], [2, 3, 1, 0], [3, 2, 0, 1], [0, 1, 3, 2]] 4 _ (by decide) (by decide) (by omega) hm1⟩
      · by_cases z2 : way = 2
        · simp only [eqv_int, decide_eq_true_eq, h3, z2, if_true, shaped_int, true_and, show ¬ (2 : Int) = 0 by decide, show ¬ (2 : Int) = 1 by decide, if_false]
          refine ⟨by decide, by decide, by decide, by decide, by decide, by decide, by decide, by decide, by decide, by decide, by decide, _, _, rfl, rfl, by decide, by decide, hm1, fun x ms2 hx hm2 => ?_⟩
          simp only [List.mem_cons, List.not_mem_nil, or_false] at hx
          rcases hx with rfl | rfl
          · exact ⟨_, rfl, h [[1, 2, 3, 0], [3, 0, 1, 2], [1, 2, 3, 0], [3, 0, 1, 2]] 4 _ (by decide) (by decide) (by omega) hm2⟩
          · exact ⟨_, rfl, h [[1, 0, 3, 2], [2, 3, 0, 1], [2, 3, 0, 1], [1, 0, 3, 2]] 4 _ (by decide) (by decide) (by omega) hm2⟩
        · simp only [eqv_int, decide_eq_true_eq, h3, z0, z1, z2, if_false, shaped_int, true_and]
          obtain ⟨t, ht, t1, t2, t3⟩ : ∃ t : Nat, (if (most : Int) < 4 then (most : Int) else 4) = t ∧ 1 ≤ t ∧ t ≤ most ∧ t ≤ 4 := by
            by_cases z : (most : Int) < 4
            · exact ⟨most, if_pos z, m1, Nat.le_refl _, by omega⟩
            · exact ⟨4, if_neg z, by decide, by omega, by decide⟩
          rw [ht]
          refine ⟨t, rfl, by omega, by simp only [T60]; omega, hm1, fun r ms2 r0 r1 hm2 => ?_⟩
          obtain ⟨n, hn⟩ : ∃ n : Nat, 1 + r = n := ⟨(1 + r).toNat, by omega⟩
          simp only [dAdd]
          rw [hn]
          refine ⟨4, rfl, by decide, by decide, hm2, fun r2 ms3 q0 q1 hm3 => ?_⟩
          dsimp only [dGt, dI2]
          refine ⟨trivial, ?_⟩
          refine ite_ways (fun z => ?_) (fun z => ?_)
          · refine ⟨n, rfl, by omega, hm3, fun m ms4 hp hm4 => ?_⟩
            have hmv : Mv n m := ⟨by rw [hp.length_eq, rgI_len], fun x hx => mem_rgI.mp (hp.mem_iff.mp hx)⟩
            refine ⟨rgd (by omega), ?_⟩
            rw [rgD_rgI]
            refine wpLc_mapL (rgI n) PyData.int (fun _ => tI m) (by rw [rgI_len]; omega) rfl (fun y hy K hK => ?_) (fun _ => rfl) ?_
            · try walk_at "dd"
              exact hK _ rfl
            · try walk_at "dd"
              rw [tL_map]
              refine ⟨_, rfl, h _ n _ ⟨by simp [rgI_len], fun r hr => ?_⟩ (by omega) (by omega) hm4⟩
              obtain ⟨_, _, rfl⟩ := List.mem_map.mp hr
              exact hmv
          · refine ⟨rgd (by omega), rgd (by omega), ?_⟩
            rw [rgD_rgI]
            refine wpLc_mapL (rgI n) PyData.int (fun _ => tI (rgI n)) (by rw [rgI_len]; omega) rfl (fun y hy K hK => ?_) (fun _ => rfl) ?_
            · try walk_at "dd"
              exact hK _ rfl
            · try walk_at "dd"
              rw [tL_map]
              refine ⟨_, rfl, h _ n _ ⟨by simp [rgI_len], fun r hr => ?_⟩ (by omega) (by omega) hm3⟩
              obtain ⟨_, _, rfl⟩ := List.mem_map.mp hr
              exact Mv.ids n
  · simp only [eqv_int, decide_eq_true_eq, h3, if_false, shaped_int, true_and, ite_self]
    obtain ⟨t, ht, t1, t2, t3⟩ : ∃ t : Nat, (if (most : Int) < 4 then (most : Int) else 4) = t ∧ 1 ≤ t ∧ t ≤ most ∧ t ≤ 4 := by
      by_cases z : (most : Int) < 4
      · exact ⟨most, if_pos z, m1, Nat.le_refl _, by omega⟩
      · exact ⟨4, if_neg z, by decide, by omega, by decide⟩
    rw [ht]
    refine ⟨t, rfl, by omega, by simp only [T60]; omega, hm1, fun r ms2 r0 r1 hm2 => ?_⟩
    obtain ⟨n, hn⟩ : ∃ n : Nat, 1 + r = n := ⟨(1 + r).toNat, by omega⟩
    simp only [dAdd]
    rw [hn]
    refine ⟨4, rfl, by decide, by decide, hm2, fun r2 ms3 q0 q1 hm3 => ?_⟩
    dsimp only [dGt, dI2]
    refine ⟨trivial, ?_⟩
    refine ite_ways (fun z => ?_) (fun z => ?_)
    · refine ⟨n, rfl, by omega, hm3, fun m ms4 hp hm4 => ?_⟩
      have hmv : Mv n m := ⟨by rw [hp.length_eq, rgI_len], fun x hx => mem_rgI.mp (hp.mem_iff.mp hx)⟩
      refine ⟨rgd (by omega), ?_⟩
      rw [rgD_rgI]
      refine wpLc_mapL (rgI n) PyData.int (fun _ => tI m) (by rw [rgI_len]; omega) rfl (fun y hy K hK => ?_) (fun _ => rfl) ?_
      · try walk_at "dd"
        exact hK _ rfl
      · try walk_at "dd"
        rw [tL_map]
        refine ⟨_, rfl, h _ n _ ⟨by simp [rgI_len], fun r hr => ?_⟩ (by omega) (by omega) hm4⟩
        obtain ⟨_, _, rfl⟩ := List.mem_map.mp hr
        exact hmv
    · refine ⟨rgd (by omega), rgd (by omega), ?_⟩
      rw [rgD_rgI]
      refine wpLc_mapL (rgI n) PyData.int (fun _ => tI (rgI n)) (by rw [rgI_len]; omega) rfl (fun y hy K hK => ?_) (fun _ => rfl) ?_
      · try walk_at "dd"
        exact hK _ rfl
      · try walk_at "dd"
        rw [tL_map]
        refine ⟨_, rfl, h _ n _ ⟨by simp [rgI_len], fun r hr => ?_⟩ (by omega) (by omega) hm3⟩
        obtain ⟨_, _, rfl⟩ := List.mem_map.mp hr
        exact Mv.ids n
end Dn
set_option Elab.async false
set_option linter.all false
set_option maxRecDepth 100000
set_option autoImplicit false
set_option maxHeartbeats 4000000
namespace Dn
open PySem L2 Evl PySem.Spec PyProof.Rows
local macro_rules | `(tactic| walk_at "dd") => `(tactic| simp only [sSeq, sIf, sSet, sRet, sRetN, sNx, sEx, sAsg, sPar, dTOr, dTAnd, dTNot, dTst, dIsi, dVar, dC, dBin, dChain, dNeg, dI2, dAnd, dOr, dNot, dIfE, dCall, dCallF, aCons, aNil, dTup, lLst, dOfL, xIm, xOw, gNm, gTp, gsCons, gsNil, dYes, envD, dLen_tR, dLen_tI, dLen_tup, dLen_lst, seq_tR, seq_tI, seq_tup, seq_lst, dIs, dIsNot, dNe, dEq, dTupOf, dSl, oNone, oSome, iSq, iEn, iR1, iR2, sFor, lLc, sNever, dTRg, rg1, rg2, lRg, wipeD, isN, optD,
  dIxP, sSub, dApp, dPopAt, dExt, dCallM, dCallO, dBinO, dTupO, lOf, lOfO, sRetO, iOw, dVarF, lCat, lCall, dAbs, dMax2, dMin2, dInt, atO, setO, MO.getL, MO.putL, Option.isSome_some,
  dInK, dGetK, dGetD, dInD, dGet1, lKeys, lSort, dLenSet, dRevT, sPutK, xDct, xDct1, sRetK, atK, keyD, sAugI,
  kit_int, kit_bool, kit_tuple, kit_str, List.map_cons, List.map_nil, List.cons_append, List.nil_append, List.replicate, List.set_cons_zero, List.set_cons_succ, List.getElem?_cons_zero, List.getElem?_cons_succ, List.length_cons, List.length_nil, List.length_map, Nat.reduceAdd, Nat.reduceSub, Bool.not_true, Bool.not_false, Bool.false_eq_true, if_true, if_false, true_and, reduceCtorEq, Bool.true_eq_false, rgD_rgI, Option.some.injEq, exists_eq_left', and_true])
theorem v__law_quiet_dots : VM g__law_quiet_dots S__law_quiet_dots 3 6 := fun l ms ds Q _ h => by
  obtain ⟨least, most, rfl, m1, m2, lm, hm, h⟩ := h
  unfold g__law_quiet_dots
  walk_at "dd"
  refine ⟨most, rfl, m1, by omega, hm, fun C n ms1 hC n1 n2 hm1 => ?_⟩
  try walk_at "dd"
  by_cases h3 : (3 : Int) < most
  · simp only [h3, decide_true, if_true]
    refine ⟨4, rfl, by decide, by decide, hm1, fun r ms1 r0 r1 hm1 => ?_⟩
    try walk_at "dd"
    refine ⟨rfl, rfl, ?_⟩
    rw [eqv_int]
    refine ite_ways (fun z => ?_) (fun z => ?_)
    · refine ⟨by decide, by decide, by decide, by decide, by decide, by decide, by decide, by decide, by decide, by decide, by decide, by decide, _, _, rfl, rfl, by decide, by decide, hm1, fun x ms2 hx hm2 => ?_⟩
      simp only [List.mem_cons, List.not_mem_nil, or_false] at hx
      rcases hx with rfl | rfl | rfl
      · refine ⟨[[1, 0], [1, 0]], [[0, 1], [0, 1]], 2, 2, rfl, by decide, by decide, by decide, by decide, fun C hC => ?_⟩
        refine ⟨rgd (by omega), ?_⟩
        refine wpFor_inv (fun ρ => ∃ C n ms' x4 x5 x6 x7 x8, ρ = [some (.ow (.par l (.lst ms'))), some (.im (.int least)), some (.im (.int most)), some (.im (tL C)), x4, x5, x6, x7, x8] ∧ Dw n C ∧ 1 ≤ n ∧ n ≤ most ∧ Dc ms') ⟨C, 4, _, _, _, _, _, _, rfl, hC, by decide, by omega, hm2⟩ (fun d hd ρ K i k => ?_) (fun ρ i => ?_)
        · obtain ⟨C, n, ms2, x4, x5, x6, x7, x8, rfl, hC, n1, n2, hm2⟩ := i
          have cl := hC.1
          try walk_at "dd"
          simp only [dSub, dGt, dLt, dI2, dLen_tL, cl, true_and]
          by_cases hr : (0 : Int) < most - n
          · simp only [hr, decide_true, if_true]
            by_cases hl : (n : Int) < least
            · simp only [hl, decide_true, if_true]
              refine ⟨most - n, by rw [show ((most : Int) - n) = ((most - n : Nat) : Int) by omega], by omega, by omega, hm2, fun D m ms3 hD b1 b2 hm3 => ?_⟩
              have dl := hD.1
              simp only [dLen_tL, dl, cl, dLt, dI2, true_and]
              refine ⟨rgd (by omega), rgd (by omega), ?_⟩
              by_cases q1 : (m : Int) < 5
              · by_cases q2 : (n : Int) < 5
                · simp only [q1, q2, decide_true, if_true]
                  refine ⟨D, m, rfl, hD, by omega, fun L1 hL1 ne1 l1 => ⟨_, L1.map tI, rfl, rfl, by simpa using ne1, by simp; omega, hm3, fun x ms4 hx hm4 => ?_⟩⟩
                  obtain ⟨f, hf, rfl⟩ := List.mem_map.mp hx
                  refine ⟨C, n, rfl, hC, by omega, fun L2 hL2 ne2 l2 => ⟨_, L2.map tI, rfl, rfl, by simpa using ne2, by simp; omega, hm4, fun x ms5 hx hm5 => ?_⟩⟩
                  obtain ⟨g, hg, rfl⟩ := List.mem_map.mp hx
                  exact ⟨C, D, f, g, n, m, rfl, hC, hD, hL1 f hf, hL2 g hg, by omega, fun C2 hC2 => k _ ⟨C2, n + m, ms5, _, _, _, _, _, rfl, hC2, by omega, by omega, hm5⟩⟩
                · simp only [q1, q2, decide_true, decide_false, if_true, if_false, Bool.false_eq_true]
                  try simp only [rgD_rgI]
                  exact ⟨C, D, rgI m, rgI n, n, m, rfl, hC, hD, Mv.ids m, Mv.ids n, by omega, fun C2 hC2 => k _ ⟨C2, n + m, ms3, _, _, _, _, _, rfl, hC2, by omega, by omega, hm3⟩⟩
              · simp only [q1, decide_false, if_false, Bool.false_eq_true]
                try simp only [rgD_rgI]
                exact ⟨C, D, rgI m, rgI n, n, m, rfl, hC, hD, Mv.ids m, Mv.ids n, by omega, fun C2 hC2 => k _ ⟨C2, n + m, ms3, _, _, _, _, _, rfl, hC2, by omega, by omega, hm3⟩⟩
            · simp only [hl, decide_false, if_false, Bool.false_eq_true]
              refine ⟨2, rfl, by decide, by decide, hm2, fun r ms2 r0 r1 hm2 => ?_⟩
              try walk_at "dd"
              refine ⟨rfl, rfl, ?_⟩
              rw [eqv_int]
              refine ite_ways (fun z => ?_) (fun z => k _ ⟨C, n, ms2, _, _, _, _, _, rfl, hC, n1, n2, hm2⟩)
              refine ⟨most - n, by rw [show ((most : Int) - n) = ((most - n : Nat) : Int) by omega], by omega, by omega, hm2, fun D m ms3 hD b1 b2 hm3 => ?_⟩
              have dl := hD.1
              simp only [dLen_tL, dl, cl, dLt, dI2, true_and]
              refine ⟨rgd (by omega), rgd (by omega), ?_⟩
              by_cases q1 : (m : Int) < 5
              · by_cases q2 : (n : Int) < 5
                · simp only [q1, q2, decide_true, if_true]
                  refine ⟨D, m, rfl, hD, by omega, fun L1 hL1 ne1 l1 => ⟨_, L1.map tI, rfl, rfl, by simpa using ne1, by simp; omega, hm3, fun x ms4 hx hm4 => ?_⟩⟩
                  obtain ⟨f, hf, rfl⟩ := List.mem_map.mp hx
                  refine ⟨C, n, rfl, hC, by omega, fun L2 hL2 ne2 l2 => ⟨_, L2.map tI, rfl, rfl, by simpa using ne2, by simp; omega, hm4, fun x ms5 hx hm5 => ?_⟩⟩
                  obtain ⟨g, hg, rfl⟩ := List.mem_map.mp hx
                  exact ⟨C, D, f, g, n, m, rfl, hC, hD, hL1 f hf, hL2 g hg, by omega, fun C2 hC2 => k _ ⟨C2, n + m, ms5, _, _, _, _, _, rfl, hC2, by omega, by omega, hm5⟩⟩
                · simp only [q1, q2, decide_true, decide_false, if_true, if_false, Bool.false_eq_true]
                  try simp only [rgD_rgI]
                  exact ⟨C, D, rgI m, rgI n, n, m, rfl, hC, hD, Mv.ids m, Mv.ids n, by omega, fun C2 hC2 => k _ ⟨C2, n + m, ms3, _, _, _, _, _, rfl, hC2, by omega, by omega, hm3⟩⟩
              · simp only [q1, decide_false, if_false, Bool.false_eq_true]
                try simp only [rgD_rgI]
                exact ⟨C, D, rgI m, rgI n, n, m, rfl, hC, hD, Mv.ids m, Mv.ids n, by omega, fun C2 hC2 => k _ ⟨C2, n + m, ms3, _, _, _, _, _, rfl, hC2, by omega, by omega, hm3⟩⟩
          · simp only [hr, decide_false, if_false, Bool.false_eq_true]
            exact k _ ⟨C, n, ms2, _, _, _, _, _, rfl, hC, n1, n2, hm2⟩
        · obtain ⟨C, n, ms2, x4, x5, x6, x7, x8, rfl, hC, n1, n2, hm2⟩ := i
          have cl := hC.1
          try walk_at "dd"
          rw [dLen_tL, cl]
          refine ⟨n, rfl, by omega, hm2, fun m ms3 hp hm3 => ?_⟩
          have hmv : Mv n m := ⟨by rw [hp.length_eq, rgI_len], fun x hx => mem_rgI.mp (hp.mem_iff.mp hx)⟩
          exact ⟨C, m, n, rfl, hC, hmv, by omega, fun C2 hC2 => ⟨_, rfl, h C2 n _ hC2 n1 n2 hm3⟩⟩
      · refine ⟨[[1, 0], [1, 0]], [[1, 0], [1, 0]], 2, 2, rfl, by decide, by decide, by decide, by decide, fun C hC => ?_⟩
        refine ⟨rgd (by omega), ?_⟩
        refine wpFor_inv (fun ρ => ∃ C n ms' x4 x5 x6 x7 x8, ρ = [some (.ow (.par l (.lst ms'))), some (.im (.int least)), some (.im (.int most)), some (.im (tL C)), x4, x5, x6, x7, x8] ∧ Dw n C ∧ 1 ≤ n ∧ n ≤ most ∧ Dc ms') ⟨C, 4, _, _, _, _, _, _, rfl, hC, by decide, by omega, hm2⟩ (fun d hd ρ K i k => ?_) (fun ρ i => ?_)
        · obtain ⟨C, n, ms2, x4, x5, x6, x7, x8, rfl, hC, n1, n2, hm2⟩ := i
          have cl := hC.1
          try walk_at "dd"
          simp only [dSub, dGt, dLt, dI2, dLen_tL, cl, true_and]
          by_cases hr : (0 : Int) < most - n
          · simp only [hr, decide_true, if_true]
            by_cases hl : (n : Int) < least
            · simp only [hl, decide_true, if_true]
              refine ⟨most - n, by rw [show ((most : Int) - n) = ((most - n : Nat) : Int) by omega], by omega, by omega, hm2, fun D m ms3 hD b1 b2 hm3 => ?_⟩
              have dl := hD.1
              simp only [dLen_tL, dl, cl, dLt, dI2, true_and]
              refine ⟨rgd (by omega), rgd (by omega), ?_⟩
              by_cases q1 : (m : Int) < 5
              · by_cases q2 : (n : Int) < 5
                · simp only [q1, q2, decide_true, if_true]
                  refine ⟨D, m, rfl, hD, by omega, fun L1 hL1 ne1 l1 => ⟨_, L1.map tI, rfl, rfl, by simpa using ne1, by simp; omega, hm3, fun x ms4 hx hm4 => ?_⟩⟩
                  obtain ⟨f, hf, rfl⟩ := List.mem_map.mp hx
                  refine ⟨C, n, rfl, hC, by omega, fun L2 hL2 ne2 l2 => ⟨_, L2.map tI, rfl, rfl, by simpa using ne2, by simp; omega, hm4, fun x ms5 hx hm5 => ?_⟩⟩
                  obtain ⟨g, hg, rfl⟩ := List.mem_map.mp hx
                  exact ⟨C, D, f, g, n, m, rfl, hC, hD, hL1 f hf, hL2 g hg, by omega, fun C2 hC2 => k _ ⟨C2, n + m, ms5, _, _, _, _, _, rfl, hC2, by omega, by omega, hm5⟩⟩
                · simp only [q1, q2, decide_true, decide_false, if_true, if_false, Bool.false_eq_true]
                  try simp only [rgD_rgI]
                  exact ⟨C, D, rgI m, rgI n, n, m, rfl, hC, hD, Mv.ids m, Mv.ids n, by omega, fun C2 hC2 => k _ ⟨C2, n + m, ms3, _, _, _, _, _, rfl, hC2, by omega, by omega, hm3⟩⟩
              · simp only [q1, decide_false, if_false, Bool.false_eq_true]
                try simp only [rgD_rgI]
                exact ⟨C, D, rgI m, rgI n, n, m, rfl, hC, hD, Mv.ids m, Mv.ids n, by omega, fun C2 hC2 => k _ ⟨C2, n + m, ms3, _, _, _, _, _, rfl, hC2, by omega, by omega, hm3⟩⟩
            · simp only [hl, decide_false, if_false, Bool.false_eq_true]
              refine ⟨2, rfl, by decide, by decide, hm2, fun r ms2 r0 r1 hm2 => ?_⟩
              try walk_at "dd"
              refine ⟨rfl, rfl, ?_⟩
              rw [eqv_int]
              refine ite_ways (fun z => ?_) (fun z => k _ ⟨C, n, ms2, _, _, _, _, _, rfl, hC, n1, n2, hm2⟩)
              refine ⟨most - n, by rw [show ((most : Int) - n) = ((most - n : Nat) : Int) by omega], by omega, by omega, hm2, fun D m ms3 hD b1 b2 hm3 => ?_⟩
              have dl := hD.1
              simp only [dLen_tL, dl, cl, dLt, dI2, true_and]
              refine ⟨rgd (by omega), rgd (by omega), ?_⟩
              by_cases q1 : (m : Int) < 5
              · by_cases q2 : (n : Int) < 5
                · simp only [q1, q2, decide_true, if_true]
                  refine ⟨D, m, rfl, hD, by omega, fun L1 hL1 ne1 l1 => ⟨_, L1.map tI, rfl, rfl, by simpa using ne1, by simp; omega, hm3, fun x ms4 hx hm4 => ?_⟩⟩
                  obtain ⟨f, hf, rfl⟩ := List.mem_map.mp hx
                  refine ⟨C, n, rfl, hC, by omega, fun L2 hL2 ne2 l2 => ⟨_, L2.map tI, rfl, rfl, by simpa using ne2, by simp; omega, hm4, fun x ms5 hx hm5 => ?_⟩⟩
                  obtain ⟨g, hg, rfl⟩ := List.mem_map.mp hx
                  exact ⟨C, D, f, g, n, m, rfl, hC, hD, hL1 f hf, hL2 g hg, by omega, fun C2 hC2 => k _ ⟨C2, n + m, ms5, _, _, _, _, _, rfl, hC2, by omega, by omega, hm5⟩⟩
                · simp only [q1, q2, decide_true, decide_false, if_true, if_false, Bool.false_eq_true]
                  try simp only [rgD_rgI]
                  exact ⟨C, D, rgI m, rgI n, n, m, rfl, hC, hD, Mv.ids m, Mv.ids n, by omega, fun C2 hC2 => k _ ⟨C2, n + m, ms3, _, _, _, _, _, rfl, hC2, by omega, by omega, hm3⟩⟩
              · simp only [q1, decide_false, if_false, Bool.false_eq_true]
                try simp only [rgD_rgI]
                exact ⟨C, D, rgI m, rgI n, n, m, rfl, hC, hD, Mv.ids m, Mv.ids n, by omega, fun C2 hC2 => k _ ⟨C2, n + m, ms3, _, _, _, _, _, rfl, hC2, by omega, by omega, hm3⟩⟩
          · simp only [hr, decide_false, if_false, Bool.false_eq_true]
            exact k _ ⟨C, n, ms2, _, _, _, _, _, rfl, hC, n1, n2, hm2⟩
        · obtain ⟨C, n, ms2, x4, x5, x6, x7, x8, rfl, hC, n1, n2, hm2⟩ := i
          have cl := hC.1
          try walk_at "dd"
          rw [dLen_tL, cl]
          refine ⟨n, rfl, by omega, hm2, fun m ms3 hp hm3 => ?_⟩
          have hmv : Mv n m := ⟨by rw [hp.length_eq, rgI_len], fun x hx => mem_rgI.mp (hp.mem_iff.mp hx)⟩
          exact ⟨C, m, n, rfl, hC, hmv, by omega, fun C2 hC2 => ⟨_, rfl, h C2 n _ hC2 n1 n2 hm3⟩⟩
      · refine ⟨[[1, 0], [1, 0]], [[0]], 2, 1, rfl, by decide, by decide, by decide, by decide, fun C hC => ?_⟩
        refine ⟨rgd (by omega), ?_⟩
        refine wpFor_inv (fun ρ => ∃ C n ms' x4 x5 x6 x7 x8, ρ = [some (.ow (.par l (.lst ms'))), some (.im (.int least)), some (.im (.int most)), some (.im (tL C)), x4, x5, x6, x7, x8] ∧ Dw n C ∧ 1 ≤ n ∧ n ≤ most ∧ Dc ms') ⟨C, 2, _, _, _, _, _, _, rfl, hC, by decide, by omega, hm2⟩ (fun d hd ρ K i k => ?_) (fun ρ i => ?_)
        · obtain ⟨C, n, ms2, x4, x5, x6, x7, x8, rfl, hC, n1, n2, hm2⟩ := i
          have cl := hC.1
          try walk_at "dd"
          simp only [dSub, dGt, dLt, dI2, dLen_tL, cl, true_and]
          by_cases hr : (0 : Int) < most - n
          · simp only [hr, decide_true, if_true]
            by_cases hl : (n : Int) < least
            · simp only [hl, decide_true, if_true]
              refine ⟨most - n, by rw [show ((most : Int) - n) = ((most - n : Nat) : Int) by omega], by omega, by omega, hm2, fun D m ms3 hD b1 b2 hm3 => ?_⟩
              have dl := hD.1
              simp only [dLen_tL, dl, cl, dLt, dI2, true_and]
              refine ⟨rgd (by omega), rgd (by omega), ?_⟩
              by_cases q1 : (m : Int) < 5
              · by_cases q2 : (n : Int) < 5
                · simp only [q1, q2, decide_true, if_true]
                  refine ⟨D, m, rfl, hD, by omega, fun L1 hL1 ne1 l1 => ⟨_, L1.map tI, rfl, rfl, by simpa using ne1, by simp; omega, hm3, fun x ms4 hx hm4 => ?_⟩⟩
                  obtain ⟨f, hf, rfl⟩ := List.mem_map.mp hx
                  refine ⟨C, n, rfl, hC, by omega, fun L2 hL2 ne2 l2 => ⟨_, L2.map tI, rfl, rfl, by simpa using ne2, by simp; omega, hm4, fun x ms5 hx hm5 => ?_⟩⟩
                  obtain ⟨g, hg, rfl⟩ := List.mem_map.mp hx
                  exact ⟨C, D, f, g, n, m, rfl, hC, hD, hL1 f hf, hL2 g hg, by omega, fun C2 hC2 => k _ ⟨C2, n + m, ms5, _, _, _, _, _, rfl, hC2, by omega, by omega, hm5⟩⟩
                · simp only [q1, q2, decide_true, decide_false, if_true, if_false, Bool.false_eq_true]
                  try simp only [rgD_rgI]
                  exact ⟨C, D, rgI m, rgI n, n, m, rfl, hC, hD, Mv.ids m, Mv.ids n, by omega, fun C2 hC2 => k _ ⟨C2, n + m, ms3, _, _, _, _, _, rfl, hC2, by omega, by omega, hm3⟩⟩
              · simp only [q1, decide_false, if_false, Bool.false_eq_true]
                try simp only [rgD_rgI]
                exact ⟨C, D, rgI m, rgI n, n, m, rfl, hC, hD, Mv.ids m, Mv.ids n, by omega, fun C2 hC2 => k _ ⟨C2, n + m, ms3, _, _, _, _, _, rfl, hC2, by omega, by omega, hm3⟩⟩
            · simp only [hl, decide_false, if_false, Bool.false_eq_true]
              refine ⟨2, rfl, by decide, by decide, hm2, fun r ms2 r0 r1 hm2 => ?_⟩
              try walk_at "dd"
              refine ⟨rfl, rfl, ?_⟩
              rw [eqv_int]
              refine ite_ways (fun z => ?_) (fun z => k _ ⟨C, n, ms2, _, _, _, _, _, rfl, hC, n1, n2, hm2⟩)
              refine ⟨most - n, by rw [show ((most : Int) - n) = ((most - n : Nat) : Int) by omega], by omega, by omega, hm2, fun D m ms3 hD b1 b2 hm3 => ?_⟩
              have dl := hD.1
              simp only [dLen_tL, dl, cl, dLt, dI2, true_and]
              refine ⟨rgd (by omega), rgd (by omega), ?_⟩
              by_cases q1 : (m : Int) < 5
              · by_cases q2 : (n : Int) < 5
                · simp only [q1, q2, decide_true, if_true]
                  refine ⟨D, m, rfl, hD, by omega, fun L1 hL1 ne1 l1 => ⟨_, L1.map tI, rfl, rfl, by simpa using ne1, by simp; omega, hm3, fun x ms4 hx hm4 => ?_⟩⟩
                  obtain ⟨f, hf, rfl⟩ := List.mem_map.mp hx
                  refine ⟨C, n, rfl, hC, by omega, fun L2 hL2 ne2 l2 => ⟨_, L2.map tI, rfl, rfl, by simpa using ne2, by simp; omega, hm4, fun x ms5 hx hm5 => ?_⟩⟩
                  obtain ⟨g, hg, rfl⟩ := List.mem_map.mp hx
                  exact ⟨C, D, f, g, n, m, rfl, hC, hD, hL1 f hf, hL2 g hg, by omega, fun C2 hC2 => k _ ⟨C2, n + m, ms5, _, _, _, _, _, rfl, hC2, by omega, by omega, hm5⟩⟩
                · simp only [q1, q2, decide_true, decide_false, if_true, if_false, Bool.false_eq_true]
                  try simp only [rgD_rgI]
                  exact ⟨C, D, rgI m, rgI n, n, m, rfl, hC, hD, Mv.ids m, Mv.ids n, by omega, fun C2 hC2 => k _ ⟨C2, n + m, ms3, _, _, _, _, _, rfl, hC2, by omega, by omega, hm3⟩⟩
              · simp only [q1, decide_false, if_false, Bool.false_eq_true]
                try simp only [rgD_rgI]
                exact ⟨C, D, rgI m, rgI n, n, m, rfl, hC, hD, Mv.ids m, Mv.ids n, by omega, fun C2 hC2 => k _ ⟨C2, n + m, ms3, _, _, _, _, _, rfl, hC2, by omega, by omega, hm3⟩⟩
          · simp only [hr, decide_false, if_false, Bool.false_eq_true]
            exact k _ ⟨C, n, ms2, _, _, _, _, _, rfl, hC, n1, n2, hm2⟩
        · obtain ⟨C, n, ms2, x4, x5, x6, x7, x8, rfl, hC, n1, n2, hm2⟩ := i
          have cl := hC.1
          try walk_at "dd"
          rw [dLen_tL, cl]
          refine ⟨n, rfl, by omega, hm2, fun m ms3 hp hm3 => ?_⟩
          have hmv : Mv n m := ⟨by rw [hp.length_eq, rgI_len], fun x hx => mem_rgI.mp (hp.mem_iff.mp hx)⟩
          exact ⟨C, m, n, rfl, hC, hmv, by omega, fun C2 hC2 => ⟨_, rfl, h C2 n _ hC2 n1 n2 hm3⟩⟩
    · refine ⟨rgd (by omega), ?_⟩
      refine wpFor_inv (fun ρ => ∃ C n ms' x4 x5 x6 x7 x8, ρ = [some (.ow (.par l (.lst ms'))), some (.im (.int least)), some (.im (.int most)), some (.im (tL C)), x4, x5, x6, x7, x8] ∧ Dw n C ∧ 1 ≤ n ∧ n ≤ most ∧ Dc ms') ⟨C, n, _, _, _, _, _, _, rfl, hC, n1, n2, hm1⟩ (fun d hd ρ K i k => ?_) (fun ρ i => ?_)
      · obtain ⟨C, n, ms2, x4, x5, x6, x7, x8, rfl, hC, n1, n2, hm2⟩ := i
        have cl := hC.1
        try walk_at "dd"
        simp only [dSub, dGt, dLt, dI2, dLen_tL, cl, true_and]
        by_cases hr : (0 : Int) < most - n
        · simp only [hr, decide_true, if_true]
          by_cases hl : (n : Int) < least
          · simp only [hl, decide_true, if_true]
            refine ⟨most - n, by rw [show ((most : Int) - n) = ((most - n : Nat) : Int) by omega], by omega, by omega, hm2, fun D m ms3 hD b1 b2 hm3 => ?_⟩
            have dl := hD.1
            simp only [dLen_tL, dl, cl, dLt, dI2, true_and]
            refine ⟨rgd (by omega), rgd (by omega), ?_⟩
            by_cases q1 : (m : Int) < 5
            · by_cases q2 : (n : Int) < 5
              · simp only [q1, q2, decide_true, if_true]
                refine ⟨D, m, rfl, hD, by omega, fun L1 hL1 ne1 l1 => ⟨_, L1.map tI, rfl, rfl, by simpa using ne1, by simp; omega, hm3, fun x ms4 hx hm4 => ?_⟩⟩
                obtain ⟨f, hf, rfl⟩ := List.mem_map.mp hx
                refine ⟨C, n, rfl, hC, by omega, fun L2 hL2 ne2 l2 => ⟨_, L2.map tI, rfl, rfl, by simpa using ne2, by simp; omega, hm4, fun x ms5 hx hm5 => ?_⟩⟩
                obtain ⟨g, hg, rfl⟩ := List.mem_map.mp hx
                exact ⟨C, D, f, g, n, m, rfl, hC, hD, hL1 f hf, hL2 g hg, by omega, fun C2 hC2 => k _ ⟨C2, n + m, ms5, _, _, _, _, _, rfl, hC2, by omega, by omega, hm5⟩⟩
              · simp only [q1, q2, decide_true, decide_false, if_true, if_false, Bool.false_eq_true]
                try simp only [rgD_rgI]
                exact ⟨C, D, rgI m, rgI n, n, m, rfl, hC, hD, Mv.ids m, Mv.ids n, by omega, fun C2 hC2 => k _ ⟨C2, n + m, ms3, _, _, _, _, _, rfl, hC2, by omega, by omega, hm3⟩⟩
            · simp only [q1, decide_false, if_false, Bool.false_eq_true]
              try simp only [rgD_rgI]
              exact ⟨C, D, rgI m, rgI n, n, m, rfl, hC, hD, Mv.ids m, Mv.ids n, by omega, fun C2 hC2 => k _ ⟨C2, n + m, ms3, _, _, _, _, _, rfl, hC2, by omega, by omega, hm3⟩⟩
          · simp only [hl, decide_false, if_false, Bool.false_eq_true]
            refine ⟨2, rfl, by decide, by decide, hm2, fun r ms2 r0 r1 hm2 => ?_⟩
            try walk_at "dd"
            refine ⟨rfl, rfl, ?_⟩
            rw [eqv_int]
            refine ite_ways (fun z => ?_) (fun z => k _ ⟨C, n, ms2, _, _, _, _, _, rfl, hC, n1, n2, hm2⟩)
            refine ⟨most - n, by rw [show ((most : Int) - n) = ((most - n : Nat) : Int) by omega], by omega, by omega, hm2, fun D m ms3 hD b1 b2 hm3 => ?_⟩
            have dl := hD.1
            simp only [dLen_tL, dl, cl, dLt, dI2, true_and]
            refine ⟨rgd (by omega), rgd (by omega), ?_⟩
            by_cases q1 : (m : Int) < 5
            · by_cases q2 : (n : Int) < 5
              · simp only [q1, q2, decide_true, if_true]
                refine ⟨D, m, rfl, hD, by omega, fun L1 hL1 ne1 l1 => ⟨_, L1.map tI, rfl, rfl, by simpa using ne1, by simp; omega, hm3, fun x ms4 hx hm4 => ?_⟩⟩
                obtain ⟨f, hf, rfl⟩ := List.mem_map.mp hx
                refine ⟨C, n, rfl, hC, by omega, fun L2 hL2 ne2 l2 => ⟨_, L2.map tI, rfl, rfl, by simpa using ne2, by simp; omega, hm4, fun x ms5 hx hm5 => ?_⟩⟩
                obtain ⟨g, hg, rfl⟩ := List.mem_map.mp hx
                exact ⟨C, D, f, g, n, m, rfl, hC, hD, hL1 f hf, hL2 g hg, by omega, fun C2 hC2 => k _ ⟨C2, n + m, ms5, _, _, _, _, _, rfl, hC2, by omega, by omega, hm5⟩⟩
              · simp only [q1, q2, decide_true, decide_false, if_true, if_false, Bool.false_eq_true]
                try simp only [rgD_rgI]
                exact ⟨C, D, rgI m, rgI n, n, m, rfl, hC, hD, Mv.ids m, Mv.ids n, by omega, fun C2 hC2 => k _ ⟨C2, n + m, ms3, _, _, _, _, _, rfl, hC2, by omega, by omega, hm3⟩⟩
            · simp only [q1, decide_false, if_false, Bool.false_eq_true]
              try simp only [rgD_rgI]
              exact ⟨C, D, rgI m, rgI n, n, m, rfl, hC, hD, Mv.ids m, Mv.ids n, by omega, fun C2 hC2 => k _ ⟨C2, n + m, ms3, _, _, _, _, _, rfl, hC2, by omega, by omega, hm3⟩⟩
        · simp only [hr, decide_false, if_false, Bool.false_eq_true]
          exact k _ ⟨C, n, ms2, _, _, _, _, _, rfl, hC, n1, n2, hm2⟩
      · obtain ⟨C, n, ms2, x4, x5, x6, x7, x8, rfl, hC, n1, n2, hm2⟩ := i
        have cl := hC.1
        try walk_at "dd"
        rw [dLen_tL, cl]
        refine ⟨n, rfl, by omega, hm2, fun m ms3 hp hm3 => ?_⟩
        have hmv : Mv n m := ⟨by rw [hp.length_eq, rgI_len], fun x hx => mem_rgI.mp (hp.mem_iff.mp hx)⟩
        exact ⟨C, m, n, rfl, hC, hmv, by omega, fun C2 hC2 => ⟨_, rfl, h C2 n _ hC2 n1 n2 hm3⟩⟩
  · simp only [h3, decide_false, if_false, Bool.false_eq_true]
    refine ⟨rgd (by omega), ?_⟩
    refine wpFor_inv (fun ρ => ∃ C n ms' x4 x5 x6 x7 x8, ρ = [some (.ow (.par l (.lst ms'))), some (.im (.int least)), some (.im (.int most)), some (.im (tL C)), x4, x5, x6, x7, x8] ∧ Dw n C ∧ 1 ≤ n ∧ n ≤ most ∧ Dc ms') ⟨C, n, _, _, _, _, _, _, rfl, hC, n1, n2, hm1⟩ (fun d hd ρ K i k => ?_) (fun ρ i => ?_)
    · obtain ⟨C, n, ms2, x4, x5, x6, x7, x8, rfl, hC, n1, n2, hm2⟩ := i
      have cl := hC.1
      try walk_at "dd"
      simp only [dSub, dGt, dLt, dI2, dLen_tL, cl, true_and]
      by_cases hr : (0 : Int) < most - n
      · simp only [hr, decide_true, if_true]
        by_cases hl : (n : Int) < least
        · simp only [hl, decide_true, if_true]
          refine ⟨most - n, by rw [show ((most : Int) - n) = ((most - n : Nat) : Int) by omega], by omega, by omega, hm2, fun D m ms3 hD b1 b2 hm3 => ?_⟩
          have dl := hD.1
          simp only [dLen_tL, dl, cl, dLt, dI2, true_and]
          refine ⟨rgd (by omega), rgd (by omega), ?_⟩
          by_cases q1 : (m : Int) < 5
          · by_cases q2 : (n : Int) < 5
            · simp only [q1, q2, decide_true, if_true]
              refine ⟨D, m, rfl, hD, by omega, fun L1 hL1 ne1 l1 => ⟨_, L1.map tI, rfl, rfl, by simpa using ne1, by simp; omega, hm3, fun x ms4 hx hm4 => ?_⟩⟩
              obtain ⟨f, hf, rfl⟩ := List.mem_map.mp hx
              refine ⟨C, n, rfl, hC, by omega, fun L2 hL2 ne2 l2 => ⟨_, L2.map tI, rfl, rfl, by simpa using ne2, by simp; omega, hm4, fun x ms5 hx hm5 => ?_⟩⟩
              obtain ⟨g, hg, rfl⟩ := List.mem_map.mp hx
              exact ⟨C, D, f, g, n, m, rfl, hC, hD, hL1 f hf, hL2 g hg, by omega, fun C2 hC2 => k _ ⟨C2, n + m, ms5, _, _, _, _, _, rfl, hC2, by omega, by omega, hm5⟩⟩
            · simp only [q1, q2, decide_true, decide_false, if_true, if_false, Bool.false_eq_true]
              try simp only [rgD_rgI]
              exact ⟨C, D, rgI m, rgI n, n, m, rfl, hC, hD, Mv.ids m, Mv.ids n, by omega, fun C2 hC2 => k _ ⟨C2, n + m, ms3, _, _, _, _, _, rfl, hC2, by omega, by omega, hm3⟩⟩
          · simp only [q1, decide_false, if_false, Bool.false_eq_true]
            try simp only [rgD_rgI]
            exact ⟨C, D, rgI m, rgI n, n, m, rfl, hC, hD, Mv.ids m, Mv.ids n, by omega, fun C2 hC2 => k _ ⟨C2, n + m, ms3, _, _, _, _, _, rfl, hC2, by omega, by omega, hm3⟩⟩
        · simp only [hl, decide_false, if_false, Bool.false_eq_true]
          refine ⟨2, rfl, by decide, by decide, hm2, fun r ms2 r0 r1 hm2 => ?_⟩
          try walk_at "dd"
          refine ⟨rfl, rfl, ?_⟩
          rw [eqv_int]
          refine ite_ways (fun z => ?_) (fun z => k _ ⟨C, n, ms2, _, _, _, _, _, rfl, hC, n1, n2, hm2⟩)
          refine ⟨most - n, by rw [show ((most : Int) - n) = ((most - n : Nat) : Int) by omega], by omega, by omega, hm2, fun D m ms3 hD b1 b2 hm3 => ?_⟩
          have dl := hD.1
          simp only [dLen_tL, dl, cl, dLt, dI2, true_and]
          refine ⟨rgd (by omega), rgd (by omega), ?_⟩
          by_cases q1 : (m : Int) < 5
          · by_cases q2 : (n : Int) < 5
            · simp only [q1, q2, decide_true, if_true]
              refine ⟨D, m, rfl, hD, by omega, fun L1 hL1 ne1 l1 => ⟨_, L1.map tI, rfl, rfl, by simpa using ne1, by simp; omega, hm3, fun x ms4 hx hm4 => ?_⟩⟩
              obtain ⟨f, hf, rfl⟩ := List.mem_map.mp hx
              refine ⟨C, n, rfl, hC, by omega, fun L2 hL2 ne2 l2 => ⟨_, L2.map tI, rfl, rfl, by simpa using ne2, by simp; omega, hm4, fun x ms5 hx hm5 => ?_⟩⟩
              obtain ⟨g, hg, rfl⟩ := List.mem_map.mp hx
              exact ⟨C, D, f, g, n, m, rfl, hC, hD, hL1 f hf, hL2 g hg, by omega, fun C2 hC2 => k _ ⟨C2, n + m, ms5, _, _, _, _, _, rfl, hC2, by omega, by omega, hm5⟩⟩
            · simp only [q1, q2, decide_true, decide_false, if_true, if_false, Bool.false_eq_true]
              try simp only [rgD_rgI]
              exact ⟨C, D, rgI m, rgI n, n, m, rfl, hC, hD, Mv.ids m, Mv.ids n, by omega, fun C2 hC2 => k _ ⟨C2, n + m, ms3, _, _, _, _, _, rfl, hC2, by omega, by omega, hm3⟩⟩
          · simp only [q1, decide_false, if_false, Bool.false_eq_true]
            try simp only [rgD_rgI]
            exact ⟨C, D, rgI m, rgI n, n, m, rfl, hC, hD, Mv.ids m, Mv.ids n, by omega, fun C2 hC2 => k _ ⟨C2, n + m, ms3, _, _, _, _, _, rfl, hC2, by omega, by omega, hm3⟩⟩
      · simp only [hr, decide_false, if_false, Bool.false_eq_true]
        exact k _ ⟨C, n, ms2, _, _, _, _, _, rfl, hC, n1, n2, hm2⟩
    · obtain ⟨C, n, ms2, x4, x5, x6, x7, x8, rfl, hC, n1, n2, hm2⟩ := i
      have cl := hC.1
      try walk_at "dd"
      rw [dLen_tL, cl]
      refine ⟨n, rfl, by omega, hm2, fun m ms3 hp hm3 => ?_⟩
      have hmv : Mv n m := ⟨by rw [hp.length_eq, rgI_len], fun x hx => mem_rgI.mp (hp.mem_iff.mp hx)⟩
      exact ⟨C, m, n, rfl, hC, hmv, by omega, fun C2 hC2 => ⟨_, rfl, h C2 n _ hC2 n1 n2 hm3⟩⟩
end Dn
set_option Elab.async false
set_option linter.all false
set_option maxRecDepth 100000
set_option autoImplicit false
set_option maxHeartbeats 4000000
namespace Dn
open PySem L2 Evl PySem.Spec PyProof.Rows
local macro_rules | `(tactic| walk_at "dd") => `(tactic| simp only [sSeq, sIf, sSet, sRet, sRetN, sNx, sEx, sAsg, sPar, dTOr, dTAnd, dTNot, dTst, dIsi, dVar, dC, dBin, dChain, dNeg, dI2, dAnd, dOr, dNot, dIfE, dCall, dCallF, aCons, aNil, dTup, lLst, dOfL, xIm, xOw, gNm, gTp, gsCons, gsNil, dYes, envD, dLen_tR, dLen_tI, dLen_tup, dLen_lst, seq_tR, seq_tI, seq_tup, seq_lst, dIs, dIsNot, dNe, dEq, dTupOf, dSl, oNone, oSome, iSq, iEn, iR1, iR2, sFor, lLc, sNever, dTRg, rg1, rg2, lRg, wipeD, isN, optD,
  dIxP, sSub, dApp, dPopAt, dExt, dCallM, dCallO, dBinO, dTupO, lOf, lOfO, sRetO, iOw, dVarF, lCat, lCall, dAbs, dMax2, dMin2, dInt, atO, setO, MO.getL, MO.putL, Option.isSome_some,
  dInK, dGetK, dGetD, dInD, dGet1, lKeys, lSort, dLenSet, dRevT, sPutK, xDct, xDct1, sRetK, atK, keyD, sAugI,
  kit_int, kit_bool, kit_tuple, kit_str, List.map_cons, List.map_nil, List.cons_append, List.nil_append, List.replicate, List.set_cons_zero, List.set_cons_succ, List.getElem?_cons_zero, List.getElem?_cons_succ, List.length_cons, List.length_nil, List.length_map, Nat.reduceAdd, Nat.reduceSub, Bool.not_true, Bool.not_false, Bool.false_eq_true, if_true, if_false, true_and, reduceCtorEq, Bool.true_eq_false, rgD_rgI, Option.some.injEq, exists_eq_left', and_true])
theorem v__law_any_rows : VM g__law_any_rows S__law_any_rows 2 5 := fun l ms ds Q _ h => by
  obtain ⟨most, rfl, m1, hm, h⟩ := h
  unfold g__law_any_rows
  walk_at "dd"
  simp only [dAdd]
  refine ⟨_, rfl, by omega, by simp only [T60]; omega, hm, fun r ms1 r0 r1 hm1 => ?_⟩
  obtain ⟨n, rfl⟩ : ∃ n : Nat, r = n := ⟨r.toNat, by omega⟩
  try walk_at "dd"
  refine ⟨rgd (by omega), ?_⟩
  have mvp : ∀ m : List Int, m.Perm (rgI n) → Mv n m := fun m hp => ⟨by rw [hp.length_eq, rgI_len], fun x hx => mem_rgI.mp (hp.mem_iff.mp hx)⟩
  refine wpLc_all (fun d => ∃ m : List Int, d = tI m ∧ Mv n m) (fun ρ => ∃ ms', ρ = [some (.ow (.par l (.lst ms'))), some (.im (.int most)), some (.im (.int n)), none, none, none, none] ∧ Dc ms') ⟨_, rfl, hm1⟩ (by simp [rgI_len]; omega) (fun d hd ρ K i k => ?_) (fun _ => rfl) (fun acc ρ al ag i => ?_)
  · obtain ⟨ms2, rfl, hm2⟩ := i
    try walk_at "dd"
    exact ⟨n, rfl, by omega, hm2, fun m ms3 hp hm3 => k _ _ ⟨m, rfl, mvp m hp⟩ ⟨_, rfl, hm3⟩⟩
  · obtain ⟨ms2, rfl, hm2⟩ := i
    obtain ⟨L, rfl, hL⟩ := all_map ag
    have ll : L.length = n := by simpa [rgI_len] using al
    try walk_at "dd"
    refine ⟨rgd (by omega), ?_⟩
    refine wpLc_all (fun d => ∃ m : List Int, d = tI m ∧ Mv n m) (fun ρ => ∃ ms', ρ = [some (.ow (.par l (.lst ms'))), some (.im (.int most)), some (.im (.int n)), some (.im (.list (L.map tI))), none, none, none] ∧ Dc ms') ⟨_, rfl, hm2⟩ (by simp [rgI_len]; omega) (fun d hd ρ K i k => ?_) (fun _ => rfl) (fun acc ρ al ag i => ?_)
    · obtain ⟨ms2, rfl, hm2⟩ := i
      try walk_at "dd"
      exact ⟨n, rfl, by omega, hm2, fun m ms3 hp hm3 => k _ _ ⟨m, rfl, mvp m hp⟩ ⟨_, rfl, hm3⟩⟩
    · obtain ⟨ms2, rfl, hm2⟩ := i
      obtain ⟨R, rfl, hR⟩ := all_map ag
      have rl : R.length = n := by simpa [rgI_len] using al
      have gL : ∀ x : Int, 0 ≤ x → x < n → Mv n (L.getD x.toNat []) := fun x x0 x1 => hL _ (getD_mem (by omega))
      have gR : ∀ x : Int, 0 ≤ x → x < n → Mv n (R.getD x.toNat []) := fun x x0 x1 => hR _ (getD_mem (by omega))
      try walk_at "dd"
      refine ⟨rgd (by omega), ?_⟩
      refine wpLc_mapL (rgI n) PyData.int (fun x => tPs ((rgI n).map fun y => ((L.getD x.toNat []).getD y.toNat 0, (R.getD y.toNat []).getD x.toNat 0))) (by rw [rgI_len]; omega) rfl (fun x hx K hK => ?_) (fun _ => rfl) ?_
      · obtain ⟨x0, x1⟩ := mem_rgI.mp hx
        try walk_at "dd"
        refine ⟨rgd (by omega), ?_⟩
        refine wpLc_mapL (rgI n) PyData.int (fun y => tP ((L.getD x.toNat []).getD y.toNat 0, (R.getD y.toNat []).getD x.toNat 0)) (by rw [rgI_len]; omega) rfl (fun y hy K hK => ?_) (fun _ => rfl) ?_
        · obtain ⟨y0, y1⟩ := mem_rgI.mp hy
          try walk_at "dd"
          exact ixL (r := L) x0 (by rw [ll]; exact x1) (ixI y0 (by rw [(gL x x0 x1).1]; exact y1) (ixL (r := R) y0 (by rw [rl]; exact y1) (ixI x0 (by rw [(gR y y0 y1).1]; exact x1) ⟨by decide, hK _ rfl⟩)))
        · try walk_at "dd"
          rw [tPs_map]
          exact hK _ rfl
      · try walk_at "dd"
        rw [tRP_map]
        refine ⟨_, rfl, h _ n _ ⟨by simp [rgI_len], fun r hr => ?_⟩ (by omega) hm2⟩
        obtain ⟨x, hx, rfl⟩ := List.mem_map.mp hr
        obtain ⟨x0, x1⟩ := mem_rgI.mp hx
        refine ⟨by simp [rgI_len], fun p hp => ?_⟩
        obtain ⟨y, hy, rfl⟩ := List.mem_map.mp hp
        obtain ⟨y0, y1⟩ := mem_rgI.mp hy
        exact ⟨(gL x x0 x1).dl y0 y1, (gR y y0 y1).dl x0 x1⟩
end Dn
set_option Elab.async false
set_option linter.all false
set_option maxRecDepth 100000
set_option autoImplicit false
set_option maxHeartbeats 4000000
namespace Dn
open PySem L2 Evl PySem.Spec PyProof.Rows
local macro_rules | `(tactic| walk_at "dd") => `(tactic| simp only [sSeq, sIf, sSet, sRet, sRetN, sNx, sEx, sAsg, sPar, dTOr, dTAnd, dTNot, dTst, dIsi, dVar, dC, dBin, dChain, dNeg, dI2, dAnd, dOr, dNot, dIfE, dCall, dCallF, aCons, aNil, dTup, lLst, dOfL, xIm, xOw, gNm, gTp, gsCons, gsNil, dYes, envD, dLen_tR, dLen_tI, dLen_tup, dLen_lst, seq_tR, seq_tI, seq_tup, seq_lst, dIs, dIsNot, dNe, dEq, dTupOf, dSl, oNone, oSome, iSq, iEn, iR1, iR2, sFor, lLc, sNever, dTRg, rg1, rg2, lRg, wipeD, isN, optD,
  dIxP, sSub, dApp, dPopAt, dExt, dCallM, dCallO, dBinO, dTupO, lOf, lOfO, sRetO, iOw, dVarF, lCat, lCall, dAbs, dMax2, dMin2, dInt, atO, setO, MO.getL, MO.putL, Option.isSome_some,
  dInK, dGetK, dGetD, dInD, dGet1, lKeys, lSort, dLenSet, dRevT, sPutK, xDct, xDct1, sRetK, atK, keyD, sAugI,
  kit_int, kit_bool, kit_tuple, kit_str, List.map_cons, List.map_nil, List.cons_append, List.nil_append, List.replicate, List.set_cons_zero, List.set_cons_succ, List.getElem?_cons_zero, List.getElem?_cons_succ, List.length_cons, List.length_nil, List.length_map, Nat.reduceAdd, Nat.reduceSub, Bool.not_true, Bool.not_false, Bool.false_eq_true, if_true, if_false, true_and, reduceCtorEq, Bool.true_eq_false, rgD_rgI, Option.some.injEq, exists_eq_left', and_true])
theorem v__law_fair_rows : VM g__law_fair_rows S__law_fair_rows 3 12 := fun l ms ds Q _ h => by
  obtain ⟨least, most, rfl, m1, m2, lm, hm, h⟩ := h
  unfold g__law_fair_rows
  walk_at "dd"
  refine ⟨6, rfl, by decide, by decide, hm, fun way ms1 w0 w1 hm1 => ?_⟩
  simp only [dAdd]
  refine ⟨_, rfl, by omega, by simp only [T60]; omega, hm1, fun r ms2 r0 r1 hm2 => ?_⟩
  simp only [dAdd]
  obtain ⟨n, hn⟩ : ∃ n : Nat, (least : Int) + r = n := ⟨((least : Int) + r).toNat, by omega⟩
  rw [hn]
  have hn5 : n ≤ most := by omega
  have mvp : ∀ m : List Int, m.Perm (rgI n) → Mv n m := fun m hp => ⟨by rw [hp.length_eq, rgI_len], fun x hx => mem_rgI.mp (hp.mem_iff.mp hx)⟩
  refine ⟨rfl, rfl, ?_⟩
  rw [eqv_int]
  refine ite_ways (fun z => ?_) (fun z => ?_)
  · refine ⟨n, rfl, by omega, hm2, fun m ms3 hp hm3 => ?_⟩
    refine ⟨5, rfl, by decide, by decide, hm3, fun a ms4 a0 a1 hm4 => ?_⟩
    obtain ⟨a, rfl⟩ : ∃ k : Nat, a = k := ⟨a.toNat, by omega⟩
    refine ⟨m, n, a, rfl, mvp m hp, by omega, by omega, fun c1 hc1 => ?_⟩
    refine ⟨5, rfl, by decide, by decide, hm4, fun b ms5 b0 b1 hm5 => ?_⟩
    obtain ⟨b, rfl⟩ : ∃ k : Nat, b = k := ⟨b.toNat, by omega⟩
    refine ⟨m, n, b, rfl, mvp m hp, by omega, by omega, fun c2 hc2 => ?_⟩
    refine ⟨rgd (by omega), ?_⟩
    rw [rgD_rgI]
    refine wpLc_mapL (rgI n) PyData.int (fun x => tPs ((rgI n).map fun y => (c1.getD y.toNat 0, c2.getD x.toNat 0))) (by rw [rgI_len]; omega) rfl (fun x hx K hK => ?_) (fun _ => rfl) ?_
    · obtain ⟨x0, x1⟩ := mem_rgI.mp hx
      try walk_at "dd"
      refine ⟨rgd (by omega), ?_⟩
      refine wpLc_mapL (rgI n) PyData.int (fun y => tP (c1.getD y.toNat 0, c2.getD x.toNat 0)) (by rw [rgI_len]; omega) rfl (fun y hy K hK => ?_) (fun _ => rfl) ?_
      · obtain ⟨y0, y1⟩ := mem_rgI.mp hy
        try walk_at "dd"
        exact ixI y0 (by rw [hc1.1]; exact y1) (ixI x0 (by rw [hc2.1]; exact x1) ⟨by decide, hK _ rfl⟩)
      · try walk_at "dd"
        rw [tPs_map]
        exact hK _ rfl
    · try walk_at "dd"
      rw [tRP_map]
      refine ⟨_, rfl, h _ n _ ⟨by simp [rgI_len], fun r hr => ?_⟩ hn5 hm5⟩
      obtain ⟨x, hx, rfl⟩ := List.mem_map.mp hr
      obtain ⟨x0, x1⟩ := mem_rgI.mp hx
      refine ⟨by simp [rgI_len], fun p hp => ?_⟩
      obtain ⟨y, hy, rfl⟩ := List.mem_map.mp hp
      obtain ⟨y0, y1⟩ := mem_rgI.mp hy
      exact ⟨hc1.dl y0 y1, hc2.dl x0 x1⟩
  · refine ⟨rfl, rfl, ?_⟩
    rw [eqv_int]
    refine ite_ways (fun z1 => ?_) (fun z1 => ?_)
    · refine ⟨by decide, _, _, rfl, rfl, by decide, by decide, hm2, fun t ms3 ht hm3 => ?_⟩
      obtain ⟨t, rfl, t0, t1⟩ : ∃ k : Int, t = .int k ∧ -1 ≤ k ∧ k ≤ 2 := by
        simp only [List.mem_cons, List.not_mem_nil, or_false] at ht
        rcases ht with rfl | rfl | rfl | rfl
        all_goals exact ⟨_, rfl, by decide, by decide⟩
      simp only [dLt, dI2, true_and]
      refine ite_ways (fun z2 => ?_) (fun z2 => ?_)
      · refine ⟨rgd (by omega), ?_⟩
        rw [rgD_rgI]
        refine wpLc_mapL (rgI n) PyData.int (fun x => tPs ((rgI n).map fun y => ((x + t * y - t * x) % n, x))) (by rw [rgI_len]; omega) rfl (fun x hx K hK => ?_) (fun _ => rfl) ?_
        · obtain ⟨x0, x1⟩ := mem_rgI.mp hx
          try walk_at "dd"
          refine ⟨rgd (by omega), ?_⟩
          refine wpLc_mapL (rgI n) PyData.int (fun y => tP ((x + t * y - t * x) % n, x)) (by rw [rgI_len]; omega) rfl (fun y hy K hK => ?_) (fun _ => rfl) ?_
          · obtain ⟨y0, y1⟩ := mem_rgI.mp hy
            try walk_at "dd"
            exact ⟨cm_l ⟨by omega, by omega⟩, cm_l ⟨by omega, by omega⟩, trivial, (show (0 : Int) < n by omega), by decide, hK _ rfl⟩
          · try walk_at "dd"
            rw [tPs_map]
            exact hK _ rfl
        · try walk_at "dd"
          rw [tRP_map]
          let RR := (rgI n).map fun x => (rgI n).map fun y => ((x + t * y - t * x) % (n : Int), x)
          have hR : Pw n RR := by
            refine ⟨by simp [RR, rgI_len], fun r hr => ?_⟩
            obtain ⟨x, hx, rfl⟩ := List.mem_map.mp hr
            obtain ⟨x0, x1⟩ := mem_rgI.mp hx
            refine ⟨by simp [rgI_len], fun p hp => ?_⟩
            obtain ⟨y, hy, rfl⟩ := List.mem_map.mp hp
            obtain ⟨y0, y1⟩ := mem_rgI.mp hy
            exact ⟨⟨Int.emod_nonneg _ (by omega), Int.emod_lt_of_pos _ (by omega)⟩, x0, x1⟩
          refine ⟨n, rfl, by omega, hm3, fun m ms5 hp hm5 => ?_⟩
          exact ⟨RR, m, n, rfl, hR, mvp m hp, by omega, fun R2 hR2 => ⟨_, rfl, h R2 n _ hR2 (by omega) hm5⟩⟩
      · refine ⟨(show (0 : Int) < 2 by decide), rfl, rfl, ?_⟩
        refine ite_ways (fun z3 => ?_) (fun z3 => ?_)
        · refine ⟨rgd (by omega), ?_⟩
          rw [rgD_rgI]
          refine wpLc_mapL (rgI n) PyData.int (fun x => tPs ((rgI n).map fun y => ((x + t * y - t * x) % n, x))) (by rw [rgI_len]; omega) rfl (fun x hx K hK => ?_) (fun _ => rfl) ?_
          · obtain ⟨x0, x1⟩ := mem_rgI.mp hx
            try walk_at "dd"
            refine ⟨rgd (by omega), ?_⟩
            refine wpLc_mapL (rgI n) PyData.int (fun y => tP ((x + t * y - t * x) % n, x)) (by rw [rgI_len]; omega) rfl (fun y hy K hK => ?_) (fun _ => rfl) ?_
            · obtain ⟨y0, y1⟩ := mem_rgI.mp hy
              try walk_at "dd"
              exact ⟨cm_l ⟨by omega, by omega⟩, cm_l ⟨by omega, by omega⟩, trivial, (show (0 : Int) < n by omega), by decide, hK _ rfl⟩
            · try walk_at "dd"
              rw [tPs_map]
              exact hK _ rfl
          · try walk_at "dd"
            rw [tRP_map]
            let RR := (rgI n).map fun x => (rgI n).map fun y => ((x + t * y - t * x) % (n : Int), x)
            have hR : Pw n RR := by
              refine ⟨by simp [RR, rgI_len], fun r hr => ?_⟩
              obtain ⟨x, hx, rfl⟩ := List.mem_map.mp hr
              obtain ⟨x0, x1⟩ := mem_rgI.mp hx
              refine ⟨by simp [rgI_len], fun p hp => ?_⟩
              obtain ⟨y, hy, rfl⟩ := List.mem_map.mp hp
              obtain ⟨y0, y1⟩ := mem_rgI.mp hy
              exact ⟨⟨Int.emod_nonneg _ (by omega), Int.emod_lt_of_pos _ (by omega)⟩, x0, x1⟩
            refine ⟨n, rfl, by omega, hm3, fun m ms5 hp hm5 => ?_⟩
            exact ⟨RR, m, n, rfl, hR, mvp m hp, by omega, fun R2 hR2 => ⟨_, rfl, h R2 n _ hR2 (by omega) hm5⟩⟩
        · refine ⟨rgd (by omega), ?_⟩
          rw [rgD_rgI]
          refine wpLc_mapL (rgI n) PyData.int (fun x => tPs ((rgI n).map fun y => ((x + (-1 : Int) * y - (-1 : Int) * x) % n, x))) (by rw [rgI_len]; omega) rfl (fun x hx K hK => ?_) (fun _ => rfl) ?_
          · obtain ⟨x0, x1⟩ := mem_rgI.mp hx
            try walk_at "dd"
            refine ⟨rgd (by omega), ?_⟩
            refine wpLc_mapL (rgI n) PyData.int (fun y => tP ((x + (-1 : Int) * y - (-1 : Int) * x) % n, x)) (by rw [rgI_len]; omega) rfl (fun y hy K hK => ?_) (fun _ => rfl) ?_
            · obtain ⟨y0, y1⟩ := mem_rgI.mp hy
              try walk_at "dd"
              exact ⟨cm_l ⟨by omega, by omega⟩, cm_l ⟨by omega, by omega⟩, trivial, (show (0 : Int) < n by omega), by decide, hK _ rfl⟩
            · try walk_at "dd"
              rw [tPs_map]
              exact hK _ rfl
          · try walk_at "dd"
            rw [tRP_map]
            let RR := (rgI n).map fun x => (rgI n).map fun y => ((x + (-1 : Int) * y - (-1 : Int) * x) % (n : Int), x)
            have hR : Pw n RR := by
              refine ⟨by simp [RR, rgI_len], fun r hr => ?_⟩
              obtain ⟨x, hx, rfl⟩ := List.mem_map.mp hr
              obtain ⟨x0, x1⟩ := mem_rgI.mp hx
              refine ⟨by simp [rgI_len], fun p hp => ?_⟩
              obtain ⟨y, hy, rfl⟩ := List.mem_map.mp hp
              obtain ⟨y0, y1⟩ := mem_rgI.mp hy
              exact ⟨⟨Int.emod_nonneg _ (by omega), Int.emod_lt_of_pos _ (by omega)⟩, x0, x1⟩
            refine ⟨n, rfl, by omega, hm3, fun m ms5 hp hm5 => ?_⟩
            exact ⟨RR, m, n, rfl, hR, mvp m hp, by omega, fun R2 hR2 => ⟨_, rfl, h R2 n _ hR2 (by omega) hm5⟩⟩
    · have h5 : ¬ (5 : Int) < most := by omega
      simp only [h5, decide_false, if_false, Bool.false_eq_true, ite_self]
      refine ⟨rfl, rfl, ?_⟩
      refine ⟨rfl, rfl, ?_⟩
      rw [eqv_int]
      refine ite_ways (fun z3 => ?_) (fun z3 => ?_)
      · simp only [dGt, dI2, true_and]
        refine ite_ways (fun z4 => ?_) (fun z4 => ?_)
        · refine ⟨rgd (by omega), ?_⟩
          rw [rgD_rgI]
          refine wpLc_mapL (rgI n) PyData.int (fun x => tPs ((rgI n).map fun y => (y, (2 * y - x) % n))) (by rw [rgI_len]; omega) rfl (fun x hx K hK => ?_) (fun _ => rfl) ?_
          · obtain ⟨x0, x1⟩ := mem_rgI.mp hx
            try walk_at "dd"
            refine ⟨rgd (by omega), ?_⟩
            refine wpLc_mapL (rgI n) PyData.int (fun y => tP (y, (2 * y - x) % n)) (by rw [rgI_len]; omega) rfl (fun y hy K hK => ?_) (fun _ => rfl) ?_
            · obtain ⟨y0, y1⟩ := mem_rgI.mp hy
              try walk_at "dd"
              exact ⟨cm_l ⟨by omega, by omega⟩, (show (0 : Int) < n by omega), by decide, hK _ rfl⟩
            · try walk_at "dd"
              rw [tPs_map]
              exact hK _ rfl
          · try walk_at "dd"
            rw [tRP_map]
            let RR := (rgI n).map fun x => (rgI n).map fun y => (y, (2 * y - x) % (n : Int))
            have hR : Pw n RR := by
              refine ⟨by simp [RR, rgI_len], fun r hr => ?_⟩
              obtain ⟨x, hx, rfl⟩ := List.mem_map.mp hr
              obtain ⟨x0, x1⟩ := mem_rgI.mp hx
              refine ⟨by simp [rgI_len], fun p hp => ?_⟩
              obtain ⟨y, hy, rfl⟩ := List.mem_map.mp hp
              obtain ⟨y0, y1⟩ := mem_rgI.mp hy
              exact ⟨⟨y0, y1⟩, Int.emod_nonneg _ (by omega), Int.emod_lt_of_pos _ (by omega)⟩
            refine ⟨n, rfl, by omega, hm2, fun m ms5 hp hm5 => ?_⟩
            exact ⟨RR, m, n, rfl, hR, mvp m hp, by omega, fun R2 hR2 => ⟨_, rfl, h R2 n _ hR2 (by omega) hm5⟩⟩
        · exact ⟨least, most, rfl, m1, by omega, lm, hm2, fun C n' ms3 hC a1 a2 hm3 => ⟨C, n', rfl, hC, by omega, fun R hR => ⟨_, rfl, h R n' _ hR a2 hm3⟩⟩⟩
      · exact ⟨least, most, rfl, m1, by omega, lm, hm2, fun C n' ms3 hC a1 a2 hm3 => ⟨C, n', rfl, hC, by omega, fun R hR => ⟨_, rfl, h R n' _ hR a2 hm3⟩⟩⟩
end Dn
set_option Elab.async false
set_option linter.all false
set_option maxRecDepth 100000
set_option autoImplicit false
set_option maxHeartbeats 4000000
/-! len(set(xs)), xs a list of ints that may stand in it twice -/
namespace Dn
open PySem L2 Evl PySem.Spec PyProof.Rows
theorem dedup_nodup {acc : List Int} {x : Int} (h : acc.Nodup) : (step_dedup acc x).Nodup := by
  unfold step_dedup
  split
  · exact h
  · rename_i z
    rw [List.nodup_append]
    refine ⟨h, by simp, fun a ha b hb e => z ?_⟩
    rw [List.mem_singleton] at hb
    subst hb
    exact List.any_eq_true.mpr ⟨a, ha, by simp [e]⟩
theorem met_nodup (f : Nat → Int) : ∀ i, (firstMet f i).Nodup
  | 0 => by rw [firstMet_zero]; exact List.nodup_nil
  | i + 1 => by rw [firstMet_succ]; exact dedup_nodup (met_nodup f i)
theorem met_mem (ns : List Int) (k : Int) : k ∈ firstMet (fun i => ns.getD i 0) ns.length ↔ k ∈ ns := by
  have h := firstMet_any (fun i => ns.getD i 0) ns.length k
  have e : (List.range ns.length).map (fun i => ns.getD i 0) = ns := by
    apply List.ext_getElem
    · simp
    · intro i h1 h2
      simp [List.getD_eq_getElem?_getD, List.getElem?_eq_getElem h2]
  rw [e] at h
  have z : ∀ l : List Int, l.any (· == k) = true ↔ k ∈ l := fun l => by simp
  rw [← z, h, z]
section
variable {X : Cx} {a : Expr} {fa : DE} {pos p : Pos}
def tLenSetL (K : PySem.W.Frag) (ta : TE) : TE := fun σ H Q => ta σ H fun x H1 => ∃ (l : Addr) (ns : List Int), x = V.ref l ∧ SqL K H1 l (ns.map V.int) ∧ ns.length ≤ 4000 ∧ ∀ n : Nat, n ≤ ns.length → (n = ns.length ↔ ns.Nodup) → Q (.int n) H1
theorem pe_lenSetL {a : Expr} {ta : TE} {p p2 q pos : Pos} (hc : X.calm = true) (hg : Gl X "len") (hm : X.mg "len" = none) (hg2 : Gl X "set") (hm2 : X.mg "set" = none) (ha : PE X a ta)
    (na : starEach [a] X.env = (false, eval a X.env) :: starEach [] X.env := by rfl) : PE X (.Call (.Name "len" p) [.Call (.Name "set" p2) [a] [] q] [] pos) (tLenSetL X.K ta) := by
  refine ⟨fun pins s σ H Q I h => ?_⟩
  refine Call_ (ld_blt I hg hm PySem.boot_len ?_)
  refine PyProof.Rows.callWith_builtin1 (PyProof.Rows.args_cons ?_ rfl) rfl rfl
  refine Call_ (ld_blt I hg2 hm2 PyProof.Rows.boot_set ?_)
  refine PyProof.Rows.callWith_type1 (PyProof.Rows.args_cons (thn (ha.run pins s σ H _ I h) fun v s1 ⟨x, H1, I1, r1, q1⟩ => PyProof.Rows.args_nil ?_) na) na rfl
  obtain ⟨l, ns, rfl, hq, h1, q1⟩ := q1
  cases r1
  obtain ⟨its, r, pl, hz⟩ := I1.list hq
  have hl : its.toArray.size = ns.length := by rw [List.size_toArray, ← r.length, List.length_map]
  refine call_set_list (I1.ok.hd hc) pl.isList (ns := ns) (by simpa using r.ints) (by unfold scanBound; omega) fun h' tk hS hk => ?_
  rw [hl] at hS
  refine PyProof.Rows.args_nil ?_
  obtain ⟨o, es, ep, t, ho, hex, hd, _, _, _, hf, hn⟩ := hS
  have I2 : Inv X pins σ H1 { s1 with heap := h', toks := tk } := I1.kept fun b o e => hk b o (Heap.lt_size e) e
  have w := nodup_iff_len (firstMet (fun i => ns.getD i 0) ns.length) ns (met_nodup _ _) (met_mem ns)
  refine call_len_set ho hex hd hf (by rw [hn]; omega) ⟨.int (firstMet (fun i => ns.getD i 0) ns.length).length, H1, I2.tok _, ⟨_, by rw [hn]⟩, q1 _ w.1 w.2⟩
def dLenSetL (fa : DE) : DE := fun ρ Q => fa ρ fun z ρ1 => ∃ ns : List Int, z = .list (ns.map PyData.int) ∧ ns.length ≤ 4000 ∧ ∀ n : Nat, n ≤ ns.length → (n = ns.length ↔ ns.Nodup) → Q (.int n) ρ1
theorem je_lenSetL {p2 q : Pos} (hc : X.calm = true) (hm : X.mg "len" = none) (hm2 : X.mg "set" = none) (ha : JE X a fa) (hg : Gl X "len" := by rfl) (hg2 : Gl X "set" := by rfl)
    (na : starEach [a] X.env = (false, eval a X.env) :: starEach [] X.env := by rfl) : JE X (.Call (.Name "len" p) [.Call (.Name "set" p2) [a] [] q] [] pos) (dLenSetL fa) := by
  obtain ⟨ta, pa, ka⟩ := ha.ex
  refine ⟨_, pe_lenSetL hc hg hm hg2 hm2 pa na, fun T ρ σ H QD Q r h q => ka T ρ σ H _ _ r h fun z ρ1 v H1 r1 p1 v1 h => ?_⟩
  obtain ⟨ns, rfl, h1, h2⟩ := h
  cases v1 with
  | lst hp rr =>
    obtain rfl := rr.of_ints
    exact ⟨_, ns, rfl, .inl (.inl (at_of hp)), h1, fun n ha hn => q _ _ _ _ r1 p1 (.int _) (h2 n ha hn)⟩
end
end Dn
set_option Elab.async false
set_option linter.all false
set_option maxRecDepth 100000
set_option autoImplicit false
set_option maxHeartbeats 4000000
namespace Dn
open PySem L2 Evl PySem.Spec PyProof.Rows
def isStr (s : Str) : D → Bool
  | .str t => t == s
  | _ => false
def isTup1 (s : Str) : D → Bool
  | .tuple [x] => isStr s x
  | _ => false
def isTold (s : Str) (m n : Int) : D → Bool
  | .tuple (x :: r) => decide ((r.length : Int) = m) && (isStr s x && isRow m n (.tuple r))
  | _ => false
def okS (d : D) : Prop := ∀ t, d = .str t → SeqAt.shaped (.str t) = true
/-- a value that is judged -/
def okV (d : D) : Prop := ∀ xs, d = .tuple xs → xs.length ≤ 100000 ∧ SeqAt.shaped (.tuple xs) = true ∧ ∀ x, x ∈ xs → SeqAt.shaped x = true
def pa (R : List (List (Int × Int))) (x y : Int) : Int × Int := (R.getD x.toNat []).getD y.toNat (0, 0)
def plf (R : List (List (Int × Int))) (x y z : Int) : List Int :=
  [(pa R (pa R x y).1 (pa R (pa R x y).2 z).1).1, (pa R (pa R x y).1 (pa R (pa R x y).2 z).1).2, (pa R (pa R x y).2 z).2]
def prf (R : List (List (Int × Int))) (x y z : Int) : List Int :=
  [(pa R x (pa R y z).1).1, (pa R (pa R x (pa R y z).1).2 (pa R y z).2).1, (pa R (pa R x (pa R y z).1).2 (pa R y z).2).2]
def brk (R : List (List (Int × Int))) (s : Str) (x y z : Int) : Bool :=
  if s = "left" then decide (y < z) && decide ((pa R x y).1 = (pa R x z).1) else if s = "right" then decide (y < z) && decide ((pa R y x).2 = (pa R z x).2) else decide (plf R x y z ≠ prf R x y z)
def dt (C : List (List Int)) (x y : Int) : Int := (C.getD x.toNat []).getD y.toNat 0
def brd (C : List (List Int)) (s : Str) (x y z : Int) : Bool :=
  if s = "row" then decide (y < z) && decide (dt C x y = dt C x z) else decide (dt C (dt C x y) (dt C x z) ≠ dt C (dt C y x) (dt C y z))
def noBrk (b : Str → Int → Int → Int → Bool) (ws : List Str) (n : Nat) : Prop := ∀ s, s ∈ ws → ∀ t, t ∈ t3 n → b s t.1 t.2.1 t.2.2 = false
instance (b : Str → Int → Int → Int → Bool) (ws : List Str) (n : Nat) : Decidable (noBrk b ws n) := by unfold noBrk; infer_instance
abbrev W3 : List Str := ["left", "right", "three"]
abbrev W2 : List Str := ["row", "three"]
/-- is the value a paper that is so -/
def judge (b : Str → Int → Int → Int → Bool) (ws : List Str) (fine : Str) (n : Nat) : D → Bool
  | .tuple [.str s] => (s == fine) && decide (noBrk b ws n)
  | .tuple [.str s, .int x, .int y, .int z] => decide (s ∈ ws) && (isTh n (.int x) && (isTh n (.int y) && (isTh n (.int z) && b s x y z)))
  | _ => false
/-- a paper -/
def IsPap (ws : List Str) (fine : Str) (n : Nat) (p : D) : Prop := p = .tuple [.str fine] ∨ ∃ s x y z, s ∈ ws ∧ (x, y, z) ∈ t3 n ∧ p = .tuple [.str s, .int x, .int y, .int z]
def fineD (s : Str) : D := .tuple [.str s]
def S_is_square (ds : List D) (Q : D → Prop) : Prop := ∃ C n, ds = [tR C, .int 0, .int 8] ∧ Dw n C ∧ n ≤ 5 ∧ Q (.bool true)
def S_is_same0 (ds : List D) (Q : D → Prop) : Prop := ∃ d s, ds = [d, .str s] ∧ okS d ∧ SeqAt.shaped (.str s) = true ∧ Q (.bool (isStr s d))
def S_is_same (ds : List D) (Q : D → Prop) : Prop := (∃ d s, ds = [d, .str s] ∧ okS d ∧ SeqAt.shaped (.str s) = true ∧ Q (.bool (isStr s d))) ∨ ∃ d s, ds = [d, .tuple [.str s]] ∧ okV d ∧ SeqAt.shaped (.str s) = true ∧ Q (.bool (isTup1 s d))
def S_is_told (ds : List D) (Q : D → Prop) : Prop := ∃ d s m n, ds = [d, .str s, .int m, .int n] ∧ (0 ≤ m ∧ n ≤ 100000) ∧ okV d ∧ SeqAt.shaped (.str s) = true ∧ Q (.bool (isTold s m n d))
def S__is_pairs (ds : List D) (Q : D → Prop) : Prop := ∃ (r : List (Int × Int)) (n : Nat), ds = [tPs r, .int n] ∧ r.length = n ∧ n ≤ 8 ∧ (∀ p, p ∈ r → Pr n p) ∧ Q (.bool true)
def S__is_table_rows (ds : List D) (Q : D → Prop) : Prop := ∃ R n, ds = [tRP R] ∧ Pw n R ∧ n ≤ 8 ∧ Q (.bool true)
def S__check_rows (ds : List D) (Q : D → Prop) : Prop := ∃ R n, ds = [tRP R] ∧ Pw n R ∧ n ≤ 8 ∧ Q .none
def S__check_dots (ds : List D) (Q : D → Prop) : Prop := ∃ C n, ds = [tR C] ∧ Dw n C ∧ n ≤ 5 ∧ Q .none
def S__threes (ds : List D) (Q : D → Prop) : Prop := ∃ n : Nat, ds = [.int n] ∧ n ≤ 8 ∧ Q (.list ((t3 n).map tT))
def S__passed_left_first (ds : List D) (Q : D → Prop) : Prop := ∃ R n x y z, ds = [tRP R, .int x, .int y, .int z] ∧ Pw n R ∧ n ≤ 8 ∧ (x, y, z) ∈ t3 n ∧ Q (tI (plf R x y z))
def S__passed_right_first (ds : List D) (Q : D → Prop) : Prop := ∃ R n x y z, ds = [tRP R, .int x, .int y, .int z] ∧ Pw n R ∧ n ≤ 8 ∧ (x, y, z) ∈ t3 n ∧ Q (tI (prf R x y z))
def S__breaks_fair (ds : List D) (Q : D → Prop) : Prop := ∃ R n s x y z, ds = [tRP R, .str s, tI [x, y, z]] ∧ Pw n R ∧ n ≤ 8 ∧ s ∈ W3 ∧ (x, y, z) ∈ t3 n ∧ Q (.bool (brk R s x y z))
def S__breaks_dots (ds : List D) (Q : D → Prop) : Prop := ∃ C n s x y z, ds = [tR C, .str s, tI [x, y, z]] ∧ Dw n C ∧ n ≤ 8 ∧ s ∈ W2 ∧ (x, y, z) ∈ t3 n ∧ Q (.bool (brd C s x y z))
def S__pass_alike (ds : List D) (Q : D → Prop) : Prop := ∃ R n x y, ds = [tRP R, tPs (R.getD x.toNat []), tPs (R.getD y.toNat []), tPs (R.getD (pa R x y).1.toNat []), tPs (R.getD (pa R x y).2.toNat [])] ∧ Pw n R ∧ n ≤ 8 ∧ (0 ≤ x ∧ x < n) ∧ (0 ≤ y ∧ y < n) ∧ Q (.bool ((rgI n).all fun z => decide (plf R x y z = prf R x y z)))
def S_are_fair_rows (ds : List D) (Q : D → Prop) : Prop := ∃ R n, ds = [tRP R] ∧ Pw n R ∧ n ≤ 8 ∧ Q (.bool (decide (noBrk (brk R) W3 n)))
def S__broken_paper (ds : List D) (Q : D → Prop) : Prop := ∃ R n, ds = [tRP R] ∧ Pw n R ∧ n ≤ 8 ∧ ¬ noBrk (brk R) W3 n ∧ ∀ p, IsPap W3 "fair" n p → p ≠ fineD "fair" → Q p
def S_fair_paper (ds : List D) (Q : D → Prop) : Prop := ∃ R n, ds = [tRP R] ∧ Pw n R ∧ n ≤ 8 ∧ ∀ p, IsPap W3 "fair" n p → (p = fineD "fair" ↔ noBrk (brk R) W3 n) → Q p
def S_dots_paper (ds : List D) (Q : D → Prop) : Prop := ∃ C n, ds = [tR C] ∧ Dw n C ∧ n ≤ 5 ∧ ∀ p, IsPap W2 "dots" n p → (p = fineD "dots" ↔ noBrk (brd C) W2 n) → Q p
def S_is_fair_paper (ds : List D) (Q : D → Prop) : Prop := ∃ R n v, ds = [tRP R, v] ∧ Pw n R ∧ n ≤ 8 ∧ okV v ∧ Q (.bool (judge (brk R) W3 "fair" n v))
def S_is_dots_paper (ds : List D) (Q : D → Prop) : Prop := ∃ C n v, ds = [tR C, v] ∧ Dw n C ∧ n ≤ 5 ∧ okV v ∧ Q (.bool (judge (brd C) W2 "dots" n v))
def S__law_three (ds : List D) (Q : D → Prop) : Prop := ∃ R n x y z, Pw n R ∧ n ≤ 8 ∧ (x, y, z) ∈ t3 n ∧ ((ds = [tRP R, tI [x, y, z], tI [0, 1, 0]] ∧ Q (tI (plf R x y z))) ∨ (ds = [tRP R, tI [x, y, z], tI [1, 0, 1]] ∧ Q (tI (prf R x y z))))
def S__law_first_fault (ds : List D) (Q : D → Prop) : Prop := ∃ R n, ds = [tRP R] ∧ Pw n R ∧ n ≤ 8 ∧ ∀ p, IsPap W3 "fair" n p → (p = fineD "fair" ↔ noBrk (brk R) W3 n) → Q p
def S__law_dots_fault (ds : List D) (Q : D → Prop) : Prop := ∃ C n, ds = [tR C] ∧ Dw n C ∧ n ≤ 8 ∧ ∀ p, IsPap W2 "dots" n p → (p = fineD "dots" ↔ noBrk (brd C) W2 n) → Q p
def S__law_are_letters (ds : List D) (Q : D → Prop) : Prop := ∃ xs n, ds = [.tuple xs, .int n] ∧ xs.length ≤ 100000 ∧ 0 ≤ n ∧ n ≤ 1000 ∧ Q (.bool (xs.all (isTh n)))
def S__law_is_fault (ds : List D) (Q : D → Prop) : Prop := ∃ R n v, ds = [tRP R, v] ∧ Pw n R ∧ n ≤ 8 ∧ okV v ∧ Q (.bool (judge (brk R) W3 "fair" n v))
def S__law_is_dots_fault (ds : List D) (Q : D → Prop) : Prop := ∃ C n v, ds = [tR C, v] ∧ Dw n C ∧ n ≤ 5 ∧ okV v ∧ Q (.bool (judge (brd C) W2 "dots" n v))
def S__law_bent_rows (ms ds : List D) (Q : D → List D → Prop) : Prop := ∃ R n, ds = [tRP R] ∧ Pw n R ∧ n ≤ 8 ∧ Dc ms ∧ ∀ R' ms', Pw n R' → Dc ms' → Q (tRP R') ms'
def S__law_bent_dots (ms ds : List D) (Q : D → List D → Prop) : Prop := ∃ C n, ds = [tL C] ∧ Dw n C ∧ n ≤ 8 ∧ Dc ms ∧ ∀ C' ms', Dw n C' → Dc ms' → Q (tR C') ms'
def S__law_values (ms ds : List D) (Q : D → List D → Prop) : Prop := ∃ (n : Nat) (ws : List Str) (fine : Str) (p : D), ds = [.int n, .list (ws.map PyData.str), p] ∧ n ≤ 8 ∧ (ws = W3 ∨ ws = W2) ∧ (fine = "fair" ∨ fine = "dots") ∧ IsPap ws fine n p ∧ Dc ms ∧ ∀ vs ms', (∀ v, v ∈ vs → okV v) → vs.length ≤ 1000 → Dc ms' → Q (.list vs) ms'
def S_law (ds : List D) (Q : D → Prop) : Prop := ∃ s, ds = [scr s] ∧ s.length ≤ 63 ∧ Q (.bool true)
end Dn
set_option Elab.async false
set_option linter.all false
set_option maxRecDepth 100000
set_option autoImplicit false
set_option maxHeartbeats 4000000
namespace Dn
open PySem L2 Evl PySem.Spec PyProof.Rows
abbrev N_is_square : List Str := ["value", "least", "most", "row"]
abbrev P_is_square : List Str := ["value", "least", "most"]
def g_is_square : DS := sSeq (sIf (dTOr (dTNot (dTst (dIsi "tuple" (dVar 0)))) (dTNot (dTst (dChain dLe dLe (dVar 1) (dCall dLen (aCons (dVar 0) (aNil))) (dVar 2))))) (sRet (dC (.bool false))) (sNx)) (sRet (dCall dAll (aCons (dOfL (lLc (iSq (dVar 0)) (gNm 3) (dYes) (dCallF 3 S_is_row (aCons (dVar 3) (aCons (dCall dLen (aCons (dVar 0) (aNil))) (aCons (dCall dLen (aCons (dVar 0) (aNil))) (aNil))))) [3])) (aNil))))
abbrev N_is_same : List Str := ["value", "told", "index", "part"]
abbrev P_is_same : List Str := ["value", "told"]
def g_is_same : DS := sSeq (sIf (dTst (dIsi "tuple" (dVar 1))) (sSeq (sIf (dTOr (dTNot (dTst (dIsi "tuple" (dVar 0)))) (dTst (dBin dNe (dCall dLen (aCons (dVar 0) (aNil))) (dCall dLen (aCons (dVar 1) (aNil)))))) (sRet (dC (.bool false))) (sNx)) (sRet (dCall dAll (aCons (dOfL (lLc (iEn (dVar 0)) (gTp 2 (gsCons (gNm 2) (gsCons (gNm 3) (gsNil)))) (dYes) (dCallF 2 S_is_same0 (aCons (dVar 3) (aCons (dBin dIx (dVar 1) (dVar 2)) (aNil)))) [2, 3])) (aNil))))) (sNx)) (sSeq (sIf (dTst (dIsi "str" (dVar 1))) (sRet (dAnd (dIsi "str" (dVar 0)) (dBin dEq (dVar 0) (dVar 1)))) (sNx)) (sRet (dAnd (dCallF 1 S_is_integer (aCons (dVar 0) (aNil))) (dBin dEq (dVar 0) (dVar 1)))))
def g_is_same0 : DS := sSeq (sIf (dTst (dIsi "tuple" (dVar 1))) (sSeq (sIf (dTOr (dTNot (dTst (dIsi "tuple" (dVar 0)))) (dTst (dBin dNe (dCall dLen (aCons (dVar 0) (aNil))) (dCall dLen (aCons (dVar 1) (aNil)))))) (sRet (dC (.bool false))) (sNx)) (sRet (dCall dAll (aCons (dOfL (lLc (iEn (dVar 0)) (gTp 2 (gsCons (gNm 2) (gsCons (gNm 3) (gsNil)))) (dYes) (dNever) [2, 3])) (aNil))))) (sNx)) (sSeq (sIf (dTst (dIsi "str" (dVar 1))) (sRet (dAnd (dIsi "str" (dVar 0)) (dBin dEq (dVar 0) (dVar 1)))) (sNx)) (sRet (dAnd (dCallF 1 S_is_integer (aCons (dVar 0) (aNil))) (dBin dEq (dVar 0) (dVar 1)))))
abbrev N_is_told : List Str := ["value", "word", "many", "size"]
abbrev P_is_told : List Str := ["value", "word", "many", "size"]
def g_is_told : DS := sSeq (sIf (dTOr (dTNot (dTst (dIsi "tuple" (dVar 0)))) (dTst (dBin dNe (dCall dLen (aCons (dVar 0) (aNil))) (dBin dAdd (dVar 2) (dC (.int 1)))))) (sRet (dC (.bool false))) (sNx)) (sRet (dAnd (dCallF 2 S_is_same (aCons (dBin dIx (dVar 0) (dC (.int 0))) (aCons (dVar 1) (aNil)))) (dCallF 3 S_is_row (aCons (dSl (dVar 0) (oSome (dC (.int 1))) (oNone)) (aCons (dVar 2) (aCons (dVar 3) (aNil)))))))
abbrev N__is_pairs : List Str := ["value", "size", "pair"]
abbrev P__is_pairs : List Str := ["value", "size"]
def g__is_pairs : DS := sSeq (sIf (dTOr (dTNot (dTst (dIsi "tuple" (dVar 0)))) (dTst (dBin dNe (dCall dLen (aCons (dVar 0) (aNil))) (dVar 1)))) (sRet (dC (.bool false))) (sNx)) (sRet (dCall dAll (aCons (dOfL (lLc (iSq (dVar 0)) (gNm 2) (dYes) (dCallF 3 S_is_row (aCons (dVar 2) (aCons (dC (.int 2)) (aCons (dVar 1) (aNil))))) [2])) (aNil))))
abbrev N__pass_alike : List Str := ["rows", "row", "further", "left_row", "middle_row", "z", "middle", "right", "other_middle", "other_right", "other_left"]
abbrev P__pass_alike : List Str := ["rows", "row", "further", "left_row", "middle_row"]
def g__pass_alike : DS := sSeq (sFor (iEn (dVar 4)) (gTp 2 (gsCons (gNm 5) (gsCons (gTp 2 (gsCons (gNm 6) (gsCons (gNm 7) (gsNil)))) (gsNil)))) (sSeq (sAsg (dBin dIx (dVar 2) (dVar 5)) (gTp 2 (gsCons (gNm 8) (gsCons (gNm 9) (gsNil))))) (sSeq (sAsg (dBin dIx (dVar 1) (dVar 8)) (gTp 2 (gsCons (gNm 10) (gsCons (gNm 8) (gsNil))))) (sIf (dTst (dBin dNe (dBin dAdd (dBin dIx (dVar 3) (dVar 6)) (dTup (aCons (dVar 7) (aNil)))) (dBin dAdd (dTup (aCons (dVar 10) (aNil))) (dBin dIx (dBin dIx (dVar 0) (dVar 8)) (dVar 9))))) (sRet (dC (.bool false))) (sNx))))) (sRet (dC (.bool true)))
abbrev N__threes : List Str := ["size", "letters", "x", "y", "z"]
abbrev P__threes : List Str := ["size"]
def g__threes : DS := g3
abbrev N__passed_left_first : List Str := ["rows", "x", "y", "z", "left", "middle", "right"]
abbrev P__passed_left_first : List Str := ["rows", "x", "y", "z"]
def g__passed_left_first : DS := sSeq (sAsg (dBin dIx (dBin dIx (dVar 0) (dVar 1)) (dVar 2)) (gTp 2 (gsCons (gNm 4) (gsCons (gNm 5) (gsNil))))) (sSeq (sAsg (dBin dIx (dBin dIx (dVar 0) (dVar 5)) (dVar 3)) (gTp 2 (gsCons (gNm 5) (gsCons (gNm 6) (gsNil))))) (sSeq (sAsg (dBin dIx (dBin dIx (dVar 0) (dVar 4)) (dVar 5)) (gTp 2 (gsCons (gNm 4) (gsCons (gNm 5) (gsNil))))) (sRet (dTup (aCons (dVar 4) (aCons (dVar 5) (aCons (dVar 6) (aNil))))))))
abbrev N__passed_right_first : List Str := ["rows", "x", "y", "z", "middle", "right", "left"]
abbrev P__passed_right_first : List Str := ["rows", "x", "y", "z"]
def g__passed_right_first : DS := sSeq (sAsg (dBin dIx (dBin dIx (dVar 0) (dVar 2)) (dVar 3)) (gTp 2 (gsCons (gNm 4) (gsCons (gNm 5) (gsNil))))) (sSeq (sAsg (dBin dIx (dBin dIx (dVar 0) (dVar 1)) (dVar 4)) (gTp 2 (gsCons (gNm 6) (gsCons (gNm 4) (gsNil))))) (sSeq (sAsg (dBin dIx (dBin dIx (dVar 0) (dVar 4)) (dVar 5)) (gTp 2 (gsCons (gNm 4) (gsCons (gNm 5) (gsNil))))) (sRet (dTup (aCons (dVar 6) (aCons (dVar 4) (aCons (dVar 5) (aNil))))))))
abbrev N__check_dots : List Str := ["dots"]
abbrev P__check_dots : List Str := ["dots"]
def g__check_dots : DS := sIf (dTNot (dTst (dCallF 3 S_is_square (aCons (dVar 0) (aCons (dC (.int 0)) (aCons (dC (.int 8)) (aNil))))))) (sNever) (sNx)
abbrev N__breaks_dots : List Str := ["dots", "word", "letters", "x", "y", "z"]
abbrev P__breaks_dots : List Str := ["dots", "word", "letters"]
def g__breaks_dots : DS := sSeq (sAsg (dVar 2) (gTp 3 (gsCons (gNm 3) (gsCons (gNm 4) (gsCons (gNm 5) (gsNil)))))) (sSeq (sIf (dTst (dBin dEq (dVar 1) (dC (.str "row")))) (sRet (dAnd (dBin dLt (dVar 4) (dVar 5)) (dBin dEq (dBin dIx (dBin dIx (dVar 0) (dVar 3)) (dVar 4)) (dBin dIx (dBin dIx (dVar 0) (dVar 3)) (dVar 5))))) (sNx)) (sRet (dBin dNe (dBin dIx (dBin dIx (dVar 0) (dBin dIx (dBin dIx (dVar 0) (dVar 3)) (dVar 4))) (dBin dIx (dBin dIx (dVar 0) (dVar 3)) (dVar 5))) (dBin dIx (dBin dIx (dVar 0) (dBin dIx (dBin dIx (dVar 0) (dVar 4)) (dVar 3))) (dBin dIx (dBin dIx (dVar 0) (dVar 4)) (dVar 5))))))
abbrev N__law_three : List Str := ["_law_rows", "_law_word", "_law_places", "_law_found", "_law_at", "_law_pair"]
abbrev P__law_three : List Str := ["_law_rows", "_law_word", "_law_places"]
def g__law_three : DS := sSeq (sSet 3 (xOw (lOf (dVar 1)))) (sSeq (sFor (iSq (dVar 2)) (gNm 4) (sSeq (sSet 5 (xIm (dBin dIx (dBin dIx (dVar 0) (dIxP 3 (dVar 4))) (dIxP 3 (dBin dAdd (dVar 4) (dC (.int 1))))))) (sAsg (dTup (aCons (dBin dIx (dVar 5) (dC (.int 0))) (aCons (dBin dIx (dVar 5) (dC (.int 1))) (aNil)))) (gTp 2 (gsCons (gSubW 3 (dVar 4)) (gsCons (gSubW 3 (dBin dAdd (dVar 4) (dC (.int 1)))) (gsNil))))))) (sRet (dTupO 3)))
abbrev N__law_first_fault : List Str := ["_law_rows", "_law_size", "_law_x", "_law_y", "_law_z"]
abbrev P__law_first_fault : List Str := ["_law_rows"]
def g__law_first_fault : DS := sSeq (sSet 1 (xIm (dCall dLen (aCons (dVar 0) (aNil))))) (sSeq (sFor (iR1 (dVar 1)) (gNm 2) (sFor (iR1 (dVar 1)) (gNm 3) (sFor (iR2 (dBin dAdd (dVar 3) (dC (.int 1))) (dVar 1)) (gNm 4) (sIf (dTst (dBin dEq (dBin dIx (dBin dIx (dBin dIx (dVar 0) (dVar 2)) (dVar 3)) (dC (.int 0))) (dBin dIx (dBin dIx (dBin dIx (dVar 0) (dVar 2)) (dVar 4)) (dC (.int 0))))) (sRet (dTup (aCons (dC (.str "left")) (aCons (dVar 2) (aCons (dVar 3) (aCons (dVar 4) (aNil))))))) (sNx))))) (sSeq (sFor (iR1 (dVar 1)) (gNm 3) (sFor (iR1 (dVar 1)) (gNm 2) (sFor (iR2 (dBin dAdd (dVar 2) (dC (.int 1))) (dVar 1)) (gNm 4) (sIf (dTst (dBin dEq (dBin dIx (dBin dIx (dBin dIx (dVar 0) (dVar 2)) (dVar 3)) (dC (.int 1))) (dBin dIx (dBin dIx (dBin dIx (dVar 0) (dVar 4)) (dVar 3)) (dC (.int 1))))) (sRet (dTup (aCons (dC (.str "right")) (aCons (dVar 3) (aCons (dVar 2) (aCons (dVar 4) (aNil))))))) (sNx))))) (sSeq (sFor (iR1 (dVar 1)) (gNm 2) (sFor (iR1 (dVar 1)) (gNm 3) (sFor (iR1 (dVar 1)) (gNm 4) (sIf (dTst (dBin dNe (dCallF 3 S__law_three (aCons (dVar 0) (aCons (dTup (aCons (dVar 2) (aCons (dVar 3) (aCons (dVar 4) (aNil))))) (aCons (dTup (aCons (dC (.int 0)) (aCons (dC (.int 1)) (aCons (dC (.int 0)) (aNil))))) (aNil))))) (dCallF 3 S__law_three (aCons (dVar 0) (aCons (dTup (aCons (dVar 2) (aCons (dVar 3) (aCons (dVar 4) (aNil))))) (aCons (dTup (aCons (dC (.int 1)) (aCons (dC (.int 0)) (aCons (dC (.int 1)) (aNil))))) (aNil))))))) (sRet (dTup (aCons (dC (.str "three")) (aCons (dVar 2) (aCons (dVar 3) (aCons (dVar 4) (aNil))))))) (sNx))))) (sRet (dTup (aCons (dC (.str "fair")) (aNil)))))))
abbrev N__law_dots_fault : List Str := ["_law_dots", "_law_size", "_law_x", "_law_y", "_law_z"]
abbrev P__law_dots_fault : List Str := ["_law_dots"]
def g__law_dots_fault : DS := sSeq (sSet 1 (xIm (dCall dLen (aCons (dVar 0) (aNil))))) (sSeq (sFor (iR1 (dVar 1)) (gNm 2) (sFor (iR1 (dVar 1)) (gNm 3) (sFor (iR2 (dBin dAdd (dVar 3) (dC (.int 1))) (dVar 1)) (gNm 4) (sIf (dTst (dBin dEq (dBin dIx (dBin dIx (dVar 0) (dVar 2)) (dVar 3)) (dBin dIx (dBin dIx (dVar 0) (dVar 2)) (dVar 4)))) (sRet (dTup (aCons (dC (.str "row")) (aCons (dVar 2) (aCons (dVar 3) (aCons (dVar 4) (aNil))))))) (sNx))))) (sSeq (sFor (iR1 (dVar 1)) (gNm 2) (sFor (iR1 (dVar 1)) (gNm 3) (sFor (iR1 (dVar 1)) (gNm 4) (sIf (dTst (dBin dNe (dBin dIx (dBin dIx (dVar 0) (dBin dIx (dBin dIx (dVar 0) (dVar 2)) (dVar 3))) (dBin dIx (dBin dIx (dVar 0) (dVar 2)) (dVar 4))) (dBin dIx (dBin dIx (dVar 0) (dBin dIx (dBin dIx (dVar 0) (dVar 3)) (dVar 2))) (dBin dIx (dBin dIx (dVar 0) (dVar 3)) (dVar 4))))) (sRet (dTup (aCons (dC (.str "three")) (aCons (dVar 2) (aCons (dVar 3) (aCons (dVar 4) (aNil))))))) (sNx))))) (sRet (dTup (aCons (dC (.str "dots")) (aNil))))))
abbrev N__law_are_letters : List Str := ["_law_values_here", "_law_size", "_law_one"]
abbrev P__law_are_letters : List Str := ["_law_values_here", "_law_size"]
def g__law_are_letters : DS := sRet (dCall dAll (aCons (dOfL (lLc (iSq (dVar 0)) (gNm 2) (dYes) (dAnd (dIsi "int" (dVar 2)) (dAnd (dNot (dIsi "bool" (dVar 2))) (dChain dLe dLt (dC (.int 0)) (dVar 2) (dVar 1)))) [2])) (aNil)))
abbrev N__law_is_fault : List Str := ["_law_rows", "_law_value", "_law_size", "_law_word", "_law_one", "_law_other", "_law_last", "_law_letters"]
abbrev P__law_is_fault : List Str := ["_law_rows", "_law_value"]
def g__law_is_fault : DS := sSeq (sSet 2 (xIm (dCall dLen (aCons (dVar 0) (aNil))))) (sSeq (sIf (dTOr (dTNot (dTst (dIsi "tuple" (dVar 1)))) (dTOr (dTst (dBin dEq (dVar 1) (dTup (aNil)))) (dTOr (dTst (dBin (dIn true) (dCall dLen (aCons (dVar 1) (aNil))) (dTup (aCons (dC (.int 1)) (aCons (dC (.int 4)) (aNil)))))) (dTNot (dTst (dCallF 2 S__law_are_letters (aCons (dSl (dVar 1) (oSome (dC (.int 1))) (oNone)) (aCons (dVar 2) (aNil))))))))) (sRet (dC (.bool false))) (sNx)) (sSeq (sIf (dTst (dBin dEq (dVar 1) (dTup (aCons (dC (.str "fair")) (aNil))))) (sRet (dBin dEq (dCallF 1 S__law_first_fault (aCons (dVar 0) (aNil))) (dTup (aCons (dC (.str "fair")) (aNil))))) (sNx)) (sSeq (sIf (dTst (dBin dEq (dCall dLen (aCons (dVar 1) (aNil))) (dC (.int 1)))) (sRet (dC (.bool false))) (sNx)) (sSeq (sAsg (dVar 1) (gTp 4 (gsCons (gNm 3) (gsCons (gNm 4) (gsCons (gNm 5) (gsCons (gNm 6) (gsNil))))))) (sSeq (sIf (dTst (dBin dEq (dVar 3) (dC (.str "left")))) (sRet (dAnd (dBin dLt (dVar 5) (dVar 6)) (dBin dEq (dBin dIx (dBin dIx (dBin dIx (dVar 0) (dVar 4)) (dVar 5)) (dC (.int 0))) (dBin dIx (dBin dIx (dBin dIx (dVar 0) (dVar 4)) (dVar 6)) (dC (.int 0)))))) (sNx)) (sSeq (sIf (dTst (dBin dEq (dVar 3) (dC (.str "right")))) (sRet (dAnd (dBin dLt (dVar 5) (dVar 6)) (dBin dEq (dBin dIx (dBin dIx (dBin dIx (dVar 0) (dVar 5)) (dVar 4)) (dC (.int 1))) (dBin dIx (dBin dIx (dBin dIx (dVar 0) (dVar 6)) (dVar 4)) (dC (.int 1)))))) (sNx)) (sSeq (sSet 7 (xIm (dTup (aCons (dVar 4) (aCons (dVar 5) (aCons (dVar 6) (aNil))))))) (sRet (dAnd (dBin dEq (dVar 3) (dC (.str "three"))) (dBin dNe (dCallF 3 S__law_three (aCons (dVar 0) (aCons (dVar 7) (aCons (dTup (aCons (dC (.int 0)) (aCons (dC (.int 1)) (aCons (dC (.int 0)) (aNil))))) (aNil))))) (dCallF 3 S__law_three (aCons (dVar 0) (aCons (dVar 7) (aCons (dTup (aCons (dC (.int 1)) (aCons (dC (.int 0)) (aCons (dC (.int 1)) (aNil))))) (aNil)))))))))))))))
abbrev N__law_is_dots_fault : List Str := ["_law_dots", "_law_value", "_law_size", "_law_word", "_law_x", "_law_y", "_law_z"]
abbrev P__law_is_dots_fault : List Str := ["_law_dots", "_law_value"]
def g__law_is_dots_fault : DS := sSeq (sSet 2 (xIm (dCall dLen (aCons (dVar 0) (aNil))))) (sSeq (sIf (dTOr (dTNot (dTst (dIsi "tuple" (dVar 1)))) (dTOr (dTst (dBin dEq (dVar 1) (dTup (aNil)))) (dTOr (dTst (dBin (dIn true) (dCall dLen (aCons (dVar 1) (aNil))) (dTup (aCons (dC (.int 1)) (aCons (dC (.int 4)) (aNil)))))) (dTNot (dTst (dCallF 2 S__law_are_letters (aCons (dSl (dVar 1) (oSome (dC (.int 1))) (oNone)) (aCons (dVar 2) (aNil))))))))) (sRet (dC (.bool false))) (sNx)) (sSeq (sIf (dTst (dBin dEq (dVar 1) (dTup (aCons (dC (.str "dots")) (aNil))))) (sRet (dBin dEq (dCallF 1 S__law_dots_fault (aCons (dVar 0) (aNil))) (dTup (aCons (dC (.str "dots")) (aNil))))) (sNx)) (sSeq (sIf (dTst (dBin dEq (dCall dLen (aCons (dVar 1) (aNil))) (dC (.int 1)))) (sRet (dC (.bool false))) (sNx)) (sSeq (sAsg (dVar 1) (gTp 4 (gsCons (gNm 3) (gsCons (gNm 4) (gsCons (gNm 5) (gsCons (gNm 6) (gsNil))))))) (sSeq (sIf (dTst (dBin dEq (dVar 3) (dC (.str "row")))) (sRet (dAnd (dBin dLt (dVar 5) (dVar 6)) (dBin dEq (dBin dIx (dBin dIx (dVar 0) (dVar 4)) (dVar 5)) (dBin dIx (dBin dIx (dVar 0) (dVar 4)) (dVar 6))))) (sNx)) (sRet (dAnd (dBin dEq (dVar 3) (dC (.str "three"))) (dBin dNe (dBin dIx (dBin dIx (dVar 0) (dBin dIx (dBin dIx (dVar 0) (dVar 4)) (dVar 5))) (dBin dIx (dBin dIx (dVar 0) (dVar 4)) (dVar 6))) (dBin dIx (dBin dIx (dVar 0) (dBin dIx (dBin dIx (dVar 0) (dVar 5)) (dVar 4))) (dBin dIx (dBin dIx (dVar 0) (dVar 5)) (dVar 6)))))))))))
abbrev N__law_bent_rows : List Str := ["_law_dice_here", "_law_rows", "_law_size", "_law_way", "_law_found", "_law_x", "_law_y", "_law_z", "_law_u", "_law_line", "_law_other", "_law_row", "_law_turn"]
abbrev P__law_bent_rows : List Str := ["_law_dice_here", "_law_rows"]
def g__law_bent_rows : DS := fun E ρ => (∃ p, Fr p ρ) ∧ (∀ (i : Nat) (d : D), ρ[i]? = some (some (.im d)) → NL d) ∧ (sSeq (sB (sAsg (dTup (aCons (dCall dLen (aCons (dVar 1) (aNil))) (aCons (dCallM 0 2 S__law_roll (aCons (dC (.int 5)) (aNil))) (aCons (dOfL (lLc (iSq (dVar 1)) (gNm 11) (dYes) (dOfL (lOf (dVar 11))) [11])) (aNil))))) (gTp 3 (gsCons (gNm 2) (gsCons (gNm 3) (gsCons (gNm 4) (gsNil))))))) (sSeq (sB (sIf (dTOr (dTst (dBin dEq (dVar 2) (dC (.int 0)))) (dTst (dBin dEq (dVar 3) (dC (.int 0))))) (sRet (dVar 1)) (sNx))) (sSeq (sB (sAsg (dOfL (lLc (iR1 (dC (.int 4))) (gNm 12) (dYes) (dCallM 0 2 S__law_roll (aCons (dVar 2) (aNil))) [12])) (gTpL 4 (gsCons (gNm 5) (gsCons (gNm 6) (gsCons (gNm 7) (gsCons (gNm 8) (gsNil)))))))) (sSeq (sB (sSet 9 (xIm (dBin dIx (dVar 4) (dVar 5))))) (sSeq (sIfB (dTst (dBin dEq (dVar 3) (dC (.int 1)))) (sAsgB (dTup (aCons (dCallM 0 2 S__law_roll (aCons (dVar 2) (aNil))) (aCons (dCallM 0 2 S__law_roll (aCons (dVar 2) (aNil))) (aNil)))) (gSubB 9 (dVar 6))) (sIfB (dTst (dBin dEq (dVar 3) (dC (.int 2)))) (sSeq (sB (sSet 10 (xIm (dBin dIx (dVar 4) (dVar 8))))) (sAsgB (dTup (aCons (dBin dIx (dVar 10) (dVar 7)) (aCons (dBin dIx (dVar 9) (dVar 6)) (aNil)))) (gTpB NL 2 (gsCons (gSubB 9 (dVar 6)) (gsCons (gSubB 10 (dVar 7)) (gsNil)))))) (sIfB (dTst (dBin dEq (dVar 3) (dC (.int 3)))) (sAsgB (dTup (aCons (dTup (aCons (dBin dIx (dBin dIx (dVar 9) (dVar 7)) (dC (.int 0))) (aCons (dBin dIx (dBin dIx (dVar 9) (dVar 6)) (dC (.int 1))) (aNil)))) (aCons (dTup (aCons (dBin dIx (dBin dIx (dVar 9) (dVar 6)) (dC (.int 0))) (aCons (dBin dIx (dBin dIx (dVar 9) (dVar 7)) (dC (.int 1))) (aNil)))) (aNil)))) (gTpB NL 2 (gsCons (gSubB 9 (dVar 6)) (gsCons (gSubB 9 (dVar 7)) (gsNil))))) (sSeq (sB (sSet 10 (xIm (dBin dIx (dVar 4) (dVar 7))))) (sAsgB (dTup (aCons (dTup (aCons (dBin dIx (dBin dIx (dVar 9) (dVar 6)) (dC (.int 0))) (aCons (dBin dIx (dBin dIx (dVar 10) (dVar 6)) (dC (.int 1))) (aNil)))) (aCons (dTup (aCons (dBin dIx (dBin dIx (dVar 10) (dVar 6)) (dC (.int 0))) (aCons (dBin dIx (dBin dIx (dVar 9) (dVar 6)) (dC (.int 1))) (aNil)))) (aNil)))) (gTpB NL 2 (gsCons (gSubB 9 (dVar 6)) (gsCons (gSubB 10 (dVar 6)) (gsNil))))))))) (sB (sRet (dCall dTupOf (aCons (dOfL (lLc (iSq (dVar 4)) (gNm 11) (dYes) (dCall dTupOf (aCons (dVar 11) (aNil))) [11])) (aNil)))))))))) E ρ
abbrev N__law_values : List Str := ["_law_dice_here", "_law_size", "_law_words", "_law_paper", "_law_found", "_law_word", "_law_turn", "_law_letters", "_law_y", "_law_x", "_law_z", "_law_at"]
abbrev P__law_values : List Str := ["_law_dice_here", "_law_size", "_law_words", "_law_paper"]
def g__law_values : DS := sSeq (sSet 4 (xOw (lLst (aCons (dVar 3) (aCons (dOfL (lOf (dVar 3))) (aCons (dBin dAdd (dVar 3) (dTup (aCons (dC (.int 0)) (aNil)))) (aCons (dSl (dVar 3) (oNone) (oSome (dNeg (dC (.int 1))))) (aCons (dTup (aNil)) (aCons (dC .none) (aCons (dC (.int 3)) (aCons (dC (.str "fair")) (aCons (dC (.dict [])) (aCons (dTup (aCons (dC (.str "fair")) (aCons (dC (.int 0)) (aNil)))) (aCons (dTup (aCons (dC (.int 0)) (aNil))) (aCons (dTup (aCons (dTup (aCons (dC (.str "fair")) (aNil))) (aNil))) (aNil)))))))))))))))) (sSeq (sSet 4 (xOw (lCat (dVarF 4) (dOfL (lLst (aCons (dTup (aCons (dC (.str "other")) (aCons (dC (.int 0)) (aCons (dC (.int 0)) (aCons (dC (.int 0)) (aNil)))))) (aCons (dTup (aCons (dC .none) (aCons (dC (.int 0)) (aCons (dC (.int 1)) (aCons (dC (.int 0)) (aNil)))))) (aCons (dOfL (lLst (aCons (dBin dIx (dVar 2) (dC (.int 0))) (aCons (dC (.int 0)) (aCons (dC (.int 0)) (aCons (dC (.int 1)) (aNil))))))) (aNil))))))))) (sSeq (sFor (iSq (dVar 2)) (gNm 5) (sSeq (sEx (dApp 4 (dTup (aCons (dVar 5) (aNil))))) (sSeq (sFor (iR1 (dC (.int 6))) (gNm 6) (sSeq (sSet 7 (xIm (dOfL (lLc (iR1 (dC (.int 3))) (gNm 11) (dYes) (dCallM 0 2 S__law_roll (aCons (dBin dAdd (dVar 1) (dC (.int 1))) (aNil))) [11])))) (sEx (dApp 4 (dTup (aCons (dVar 5) (aCons (dBin dIx (dVar 7) (dC (.int 0))) (aCons (dBin dIx (dVar 7) (dC (.int 1))) (aCons (dBin dIx (dVar 7) (dC (.int 2))) (aNil)))))))))) (sSeq (sIf (dTst (dBin dGt (dVar 1) (dC (.int 1)))) (sSeq (sEx (dExt 4 (dOfL (lLst (aCons (dTup (aCons (dVar 5) (aCons (dC (.int 0)) (aCons (dC (.int 0)) (aCons (dC (.bool true)) (aNil)))))) (aCons (dTup (aCons (dVar 5) (aCons (dC (.bool false)) (aCons (dC (.int 0)) (aCons (dC (.int 1)) (aNil)))))) (aCons (dTup (aCons (dVar 5) (aCons (dC (.int 0)) (aCons (dNeg (dC (.int 1))) (aCons (dC (.int 1)) (aNil)))))) (aCons (dTup (aCons (dVar 5) (aCons (dC (.int 0)) (aCons (dC (.str "0")) (aCons (dC (.int 1)) (aNil)))))) (aCons (dTup (aCons (dVar 5) (aCons (dTup (aCons (dC (.int 0)) (aNil))) (aCons (dC (.int 0)) (aCons (dC (.int 1)) (aNil)))))) (aNil)))))))))) (sEx (dApp 4 (dTup (aCons (dVar 5) (aCons (dC (.int 0)) (aCons (dBin dPow (dC (.int 10)) (dC (.int 60))) (aCons (dC (.int 1)) (aNil))))))))) (sNx)) (sFor (iR1 (dVar 1)) (gNm 8) (sSeq (sPar 9 10 (xIm (dCallM 0 2 S__law_roll (aCons (dVar 1) (aNil)))) (xIm (dCallM 0 2 S__law_roll (aCons (dVar 1) (aNil))))) (sEx (dExt 4 (dOfL (lLst (aCons (dTup (aCons (dVar 5) (aCons (dVar 9) (aCons (dVar 8) (aCons (dVar 10) (aNil)))))) (aCons (dTup (aCons (dVar 5) (aCons (dVar 9) (aCons (dVar 10) (aCons (dVar 8) (aNil)))))) (aCons (dTup (aCons (dVar 5) (aCons (dVar 8) (aCons (dVar 9) (aCons (dVar 10) (aNil)))))) (aNil)))))))))))))) (sRetO 4)))
abbrev N__law_bent_dots : List Str := ["_law_dice_here", "_law_dots", "_law_size", "_law_way", "_law_found", "_law_x", "_law_y", "_law_z", "_law_line", "_law_row", "_law_turn"]
abbrev P__law_bent_dots : List Str := ["_law_dice_here", "_law_dots"]
def g__law_bent_dots : DS := gB2 (sAsg (dTup (aCons (dCall dLen (aCons (dVar 1) (aNil))) (aCons (dCallM 0 2 S__law_roll (aCons (dC (.int 4)) (aNil))) (aCons (dOfL (lLc (iSq (dVar 1)) (gNm 9) (dYes) (dOfL (lOf (dVar 9))) [9])) (aNil))))) (gTp 3 (gsCons (gNm 2) (gsCons (gNm 3) (gsCons (gNm 4) (gsNil)))))) (sIf (dTOr (dTst (dBin dEq (dVar 2) (dC (.int 0)))) (dTst (dBin dEq (dVar 3) (dC (.int 0))))) (sRet (dCall dTupOf (aCons (dOfL (lLc (iSq (dVar 1)) (gNm 9) (dYes) (dCall dTupOf (aCons (dVar 9) (aNil))) [9])) (aNil)))) (sNx)) (sSeq (sB (sAsg (dOfL (lLc (iR1 (dC (.int 3))) (gNm 10) (dYes) (dCallM 0 2 S__law_roll (aCons (dVar 2) (aNil))) [10])) (gTpL 3 (gsCons (gNm 5) (gsCons (gNm 6) (gsCons (gNm 7) (gsNil))))))) (sSeq (sB (sSet 8 (xIm (dBin dIx (dVar 4) (dVar 5))))) (sSeq (sIfB (dTst (dBin dEq (dVar 3) (dC (.int 1)))) (sAsgB (dVar 7) (gSubB 8 (dVar 6))) (sIfB (dTst (dBin dEq (dVar 3) (dC (.int 2)))) (sAsgB (dTup (aCons (dBin dIx (dVar 8) (dVar 7)) (aCons (dBin dIx (dVar 8) (dVar 6)) (aNil)))) (gTpB NL 2 (gsCons (gSubB 8 (dVar 6)) (gsCons (gSubB 8 (dVar 7)) (gsNil))))) (sAsgB (dTup (aCons (dBin dIx (dVar 4) (dVar 6)) (aCons (dBin dIx (dVar 4) (dVar 5)) (aNil)))) (gTpB L1 2 (gsCons (gSubB2 4 (dVar 5)) (gsCons (gSubB2 4 (dVar 6)) (gsNil))))))) (sB (sRet (dCall dTupOf (aCons (dOfL (lLc (iSq (dVar 4)) (gNm 9) (dYes) (dCall dTupOf (aCons (dVar 9) (aNil))) [9])) (aNil))))))))
abbrev N__is_table_rows : List Str := ["value", "row"]
abbrev P__is_table_rows : List Str := ["value"]
def g__is_table_rows : DS := sSeq (sIf (dTOr (dTNot (dTst (dIsi "tuple" (dVar 0)))) (dTst (dBin dGt (dCall dLen (aCons (dVar 0) (aNil))) (dC (.int 8))))) (sRet (dC (.bool false))) (sNx)) (sRet (dCall dAll (aCons (dOfL (lLc (iSq (dVar 0)) (gNm 1) (dYes) (dCallF 2 S__is_pairs (aCons (dVar 1) (aCons (dCall dLen (aCons (dVar 0) (aNil))) (aNil)))) [1])) (aNil))))
abbrev N_are_fair_rows : List Str := ["rows", "x", "row", "lefts", "rights", "y", "left", "middle", "pair", "other"]
abbrev P_are_fair_rows : List Str := ["rows"]
def g_are_fair_rows : DS := sSeq (sFor (iEn (dVar 0)) (gTp 2 (gsCons (gNm 1) (gsCons (gNm 2) (gsNil)))) (sSeq (sSet 3 (xIm (dOfL (lLc (iSq (dVar 2)) (gNm 8) (dYes) (dBin dIx (dVar 8) (dC (.int 0))) [8])))) (sSeq (sSet 4 (xIm (dOfL (lLc (iSq (dVar 0)) (gNm 9) (dYes) (dBin dIx (dBin dIx (dVar 9) (dVar 1)) (dC (.int 1))) [9])))) (sIf (dTOr (dTst (dBin dLt (dLenSetL (dVar 3)) (dCall dLen (aCons (dVar 0) (aNil))))) (dTst (dBin dLt (dLenSetL (dVar 4)) (dCall dLen (aCons (dVar 0) (aNil)))))) (sRet (dC (.bool false))) (sNx))))) (sSeq (sFor (iEn (dVar 0)) (gTp 2 (gsCons (gNm 1) (gsCons (gNm 2) (gsNil)))) (sFor (iEn (dVar 2)) (gTp 2 (gsCons (gNm 5) (gsCons (gTp 2 (gsCons (gNm 6) (gsCons (gNm 7) (gsNil)))) (gsNil)))) (sIf (dTNot (dTst (dCallF 5 S__pass_alike (aCons (dVar 0) (aCons (dVar 2) (aCons (dBin dIx (dVar 0) (dVar 5)) (aCons (dBin dIx (dVar 0) (dVar 6)) (aCons (dBin dIx (dVar 0) (dVar 7)) (aNil))))))))) (sRet (dC (.bool false))) (sNx)))) (sRet (dC (.bool true))))
abbrev N__breaks_fair : List Str := ["rows", "word", "letters", "x", "y", "z"]
abbrev P__breaks_fair : List Str := ["rows", "word", "letters"]
def g__breaks_fair : DS := sSeq (sAsg (dVar 2) (gTp 3 (gsCons (gNm 3) (gsCons (gNm 4) (gsCons (gNm 5) (gsNil)))))) (sSeq (sIf (dTst (dBin dEq (dVar 1) (dC (.str "left")))) (sRet (dAnd (dBin dLt (dVar 4) (dVar 5)) (dBin dEq (dBin dIx (dBin dIx (dBin dIx (dVar 0) (dVar 3)) (dVar 4)) (dC (.int 0))) (dBin dIx (dBin dIx (dBin dIx (dVar 0) (dVar 3)) (dVar 5)) (dC (.int 0)))))) (sNx)) (sSeq (sIf (dTst (dBin dEq (dVar 1) (dC (.str "right")))) (sRet (dAnd (dBin dLt (dVar 4) (dVar 5)) (dBin dEq (dBin dIx (dBin dIx (dBin dIx (dVar 0) (dVar 4)) (dVar 3)) (dC (.int 1))) (dBin dIx (dBin dIx (dBin dIx (dVar 0) (dVar 5)) (dVar 3)) (dC (.int 1)))))) (sNx)) (sRet (dBin dNe (dCallF 4 S__passed_left_first (aCons (dVar 0) (aCons (dVar 3) (aCons (dVar 4) (aCons (dVar 5) (aNil)))))) (dCallF 4 S__passed_right_first (aCons (dVar 0) (aCons (dVar 3) (aCons (dVar 4) (aCons (dVar 5) (aNil))))))))))
abbrev N_dots_paper : List Str := ["dots", "threes", "word", "letters"]
abbrev P_dots_paper : List Str := ["dots"]
def g_dots_paper : DS := sSeq (sEx (dCallF 1 S__check_dots (aCons (dVar 0) (aNil)))) (sSeq (sSet 1 (xIm (dCallF 1 S__threes (aCons (dCall dLen (aCons (dVar 0) (aNil))) (aNil))))) (sSeq (sFor (iSq (dTup (aCons (dC (.str "row")) (aCons (dC (.str "three")) (aNil))))) (gNm 2) (sFor (iSq (dVar 1)) (gNm 3) (sIf (dTst (dCallF 3 S__breaks_dots (aCons (dVar 0) (aCons (dVar 2) (aCons (dVar 3) (aNil)))))) (sRet (dBin dAdd (dTup (aCons (dVar 2) (aNil))) (dVar 3))) (sNx)))) (sRet (dTup (aCons (dC (.str "dots")) (aNil))))))
abbrev N_is_dots_paper : List Str := ["dots", "value", "word"]
abbrev P_is_dots_paper : List Str := ["dots", "value"]
def g_is_dots_paper : DS := sSeq (sEx (dCallF 1 S__check_dots (aCons (dVar 0) (aNil)))) (sSeq (sFor (iSq (dTup (aCons (dC (.str "row")) (aCons (dC (.str "three")) (aNil))))) (gNm 2) (sIf (dTst (dCallF 4 S_is_told (aCons (dVar 1) (aCons (dVar 2) (aCons (dC (.int 3)) (aCons (dCall dLen (aCons (dVar 0) (aNil))) (aNil))))))) (sRet (dCallF 3 S__breaks_dots (aCons (dVar 0) (aCons (dVar 2) (aCons (dSl (dVar 1) (oSome (dC (.int 1))) (oNone)) (aNil)))))) (sNx))) (sRet (dAnd (dCallF 2 S_is_same (aCons (dVar 1) (aCons (dTup (aCons (dC (.str "dots")) (aNil))) (aNil)))) (dBin dEq (dCallF 1 S_dots_paper (aCons (dVar 0) (aNil))) (dTup (aCons (dC (.str "dots")) (aNil)))))))
abbrev N__broken_paper : List Str := ["rows", "threes", "word", "letters"]
abbrev P__broken_paper : List Str := ["rows"]
def g__broken_paper : DS := sSeq (sSet 1 (xIm (dCallF 1 S__threes (aCons (dCall dLen (aCons (dVar 0) (aNil))) (aNil))))) (sFor (iSq (dTup (aCons (dC (.str "left")) (aCons (dC (.str "right")) (aCons (dC (.str "three")) (aNil)))))) (gNm 2) (sFor (iSq (dVar 1)) (gNm 3) (sIf (dTst (dCallF 3 S__breaks_fair (aCons (dVar 0) (aCons (dVar 2) (aCons (dVar 3) (aNil)))))) (sRet (dBin dAdd (dTup (aCons (dVar 2) (aNil))) (dVar 3))) (sNx))))
abbrev N__check_rows : List Str := ["rows"]
abbrev P__check_rows : List Str := ["rows"]
def g__check_rows : DS := sIf (dTNot (dTst (dCallF 1 S__is_table_rows (aCons (dVar 0) (aNil))))) (sNever) (sNx)
abbrev N_fair_paper : List Str := ["rows"]
abbrev P_fair_paper : List Str := ["rows"]
def g_fair_paper : DS := sSeq (sEx (dCallF 1 S__check_rows (aCons (dVar 0) (aNil)))) (sRet (dIfE (dTst (dCallF 1 S_are_fair_rows (aCons (dVar 0) (aNil)))) (dTup (aCons (dC (.str "fair")) (aNil))) (dCallF 1 S__broken_paper (aCons (dVar 0) (aNil)))))
abbrev N_is_fair_paper : List Str := ["rows", "value", "word"]
abbrev P_is_fair_paper : List Str := ["rows", "value"]
def g_is_fair_paper : DS := sSeq (sEx (dCallF 1 S__check_rows (aCons (dVar 0) (aNil)))) (sSeq (sFor (iSq (dTup (aCons (dC (.str "left")) (aCons (dC (.str "right")) (aCons (dC (.str "three")) (aNil)))))) (gNm 2) (sIf (dTst (dCallF 4 S_is_told (aCons (dVar 1) (aCons (dVar 2) (aCons (dC (.int 3)) (aCons (dCall dLen (aCons (dVar 0) (aNil))) (aNil))))))) (sRet (dCallF 3 S__breaks_fair (aCons (dVar 0) (aCons (dVar 2) (aCons (dSl (dVar 1) (oSome (dC (.int 1))) (oNone)) (aNil)))))) (sNx))) (sRet (dAnd (dCallF 2 S_is_same (aCons (dVar 1) (aCons (dTup (aCons (dC (.str "fair")) (aNil))) (aNil)))) (dCallF 1 S_are_fair_rows (aCons (dVar 0) (aNil))))))
abbrev N_law : List Str := ["_law_script", "_law_spot", "_law_dice_here", "_law_rows", "_law_value", "_law_told", "_law_dots"]
abbrev P_law : List Str := ["_law_script"]
def g_law : DS := sSeq (sFor (iR1 (dCall dMax2 (aCons (dC (.int 1)) (aCons (dCall dMin2 (aCons (dC (.int 3)) (aCons (dCall dLen (aCons (dVar 0) (aNil))) (aNil)))) (aNil))))) (gNm 1) (sSeq (sSet 2 (xOw (lCall 2 S__law_dice (aCons (dVar 0) (aCons (dVar 1) (aNil)))))) (sSeq (sFor (iSq (dTup (aCons (dCallM 2 2 S__law_bent_rows (aCons (dCallM 2 3 S__law_fair_rows (aCons (dC (.int 0)) (aCons (dC (.int 5)) (aNil)))) (aNil))) (aCons (dCallM 2 2 S__law_any_rows (aCons (dC (.int 3)) (aNil))) (aNil))))) (gNm 3) (sFor (iSq (dCallM 2 4 S__law_values (aCons (dCall dLen (aCons (dVar 3) (aNil))) (aCons (dOfL (lLst (aCons (dC (.str "left")) (aCons (dC (.str "right")) (aCons (dC (.str "three")) (aNil)))))) (aCons (dCallF 1 S_fair_paper (aCons (dVar 3) (aNil))) (aNil)))))) (gNm 4) (sSeq (sSet 5 (xIm (dCallF 2 S_is_fair_paper (aCons (dVar 3) (aCons (dVar 4) (aNil)))))) (sIf (dTOr (dTNot (dTst (dIsi "bool" (dVar 5)))) (dTst (dBin dNe (dVar 5) (dCallF 2 S__law_is_fault (aCons (dVar 3) (aCons (dVar 4) (aNil))))))) (sRet (dC (.bool false))) (sNx))))) (sSeq (sSet 6 (xIm (dCallM 2 2 S__law_bent_dots (aCons (dCallM 2 3 S__law_quiet_dots (aCons (dC (.int 0)) (aCons (dC (.int 5)) (aNil)))) (aNil))))) (sFor (iSq (dCallM 2 4 S__law_values (aCons (dCall dLen (aCons (dVar 6) (aNil))) (aCons (dOfL (lLst (aCons (dC (.str "row")) (aCons (dC (.str "three")) (aNil))))) (aCons (dCallF 1 S_dots_paper (aCons (dVar 6) (aNil))) (aNil)))))) (gNm 4) (sSeq (sSet 5 (xIm (dCallF 2 S_is_dots_paper (aCons (dVar 6) (aCons (dVar 4) (aNil)))))) (sIf (dTOr (dTNot (dTst (dIsi "bool" (dVar 5)))) (dTst (dBin dNe (dVar 5) (dCallF 2 S__law_is_dots_fault (aCons (dVar 6) (aCons (dVar 4) (aNil))))))) (sRet (dC (.bool false))) (sNx)))))))) (sRet (dC (.bool true)))
end Dn
set_option Elab.async false
set_option linter.all false
set_option maxRecDepth 100000
set_option autoImplicit false
set_option maxHeartbeats 4000000
namespace Dn
open PySem L2 Evl PySem.Spec PyProof.Rows
local macro_rules | `(tactic| walk_at "dd") => `(tactic| simp only [sSeq, sIf, sSet, sRet, sRetN, sNx, sEx, sAsg, sPar, dTOr, dTAnd, dTNot, dTst, dIsi, dVar, dC, dBin, dChain, dNeg, dI2, dAnd, dOr, dNot, dIfE, dCall, dCallF, aCons, aNil, dTup, lLst, dOfL, xIm, xOw, gNm, gTp, gsCons, gsNil, dYes, envD, dLen_tR, dLen_tI, dLen_tup, dLen_lst, seq_tR, seq_tI, seq_tup, seq_lst, dIs, dIsNot, dNe, dEq, dTupOf, dSl, oNone, oSome, iSq, iEn, iR1, iR2, sFor, lLc, sNever, dTRg, rg1, rg2, lRg, wipeD, isN, optD,
  gTpL, dIxP, sSub, dApp, dPopAt, dExt, dCallM, dCallO, dBinO, dTupO, lOf, lOfO, sRetO, iOw, dVarF, lCat, lCall, dAbs, dMax2, dMin2, dInt, atO, setO, MO.getL, MO.putL, Option.isSome_some,
  dInK, dGetK, dGetD, dInD, dGet1, lKeys, lSort, dLenSet, dRevT, sPutK, xDct, xDct1, sRetK, atK, keyD, sAugI,
  kit_int, kit_bool, kit_tuple, kit_str, List.map_cons, List.map_nil, List.cons_append, List.nil_append, List.replicate, List.set_cons_zero, List.set_cons_succ, List.getElem?_cons_zero, List.getElem?_cons_succ, List.length_cons, List.length_nil, List.length_map, Nat.reduceAdd, Nat.reduceSub, Bool.not_true, Bool.not_false, Bool.false_eq_true, if_true, if_false, true_and, reduceCtorEq, Bool.true_eq_false, rgD_rgI, Option.some.injEq, exists_eq_left', and_true])
theorem okS_of {d : D} (h : SeqAt.shaped d = true) : okS d := fun t e => by subst e; exact h
theorem v_is_same0 : VD g_is_same0 S_is_same0 2 2 := fun ds Q _ h => by
  obtain ⟨d, s, rfl, hd, hs, h⟩ := h
  unfold g_is_same0
  walk_at "dd"
  cases d with
  | str t =>
    walk_at "dd"
    exact ⟨hd t rfl, hs, by simpa only [PyData.eqv, isStr] using h⟩
  | _ => first | exact h | (walk_at "dd"; exact h)
theorem v_is_same : VD g_is_same S_is_same 2 2 := fun ds Q _ h => by
  rcases h with ⟨d, s, rfl, hd, hs, h⟩ | ⟨d, s, rfl, hd, hs, h⟩
  · unfold g_is_same
    walk_at "dd"
    cases d with
    | str t =>
      walk_at "dd"
      exact ⟨hd t rfl, hs, by simpa only [PyData.eqv, isStr] using h⟩
    | _ => first | exact h | (walk_at "dd"; exact h)
  · unfold g_is_same
    walk_at "dd"
    cases d with
    | tuple xs =>
      walk_at "dd"
      refine ⟨rfl, rfl, ?_⟩
      simp only [PyData.eqv]
      match xs, hd, h with
      | [], hd, h => walk_at "dd"; exact h
      | [x], hd, h =>
        walk_at "dd"
        unfold enD
        simp only [List.length_cons, List.length_nil, Nat.reduceAdd, List.range_one, List.zipWith_cons_cons, List.zipWith_nil_right, wpLc]
        walk_at "dd"
        refine ⟨Nat.succ_pos _, .str s, rfl, x, s, rfl, okS_of ((hd _ rfl).2.2 x (by simp)), hs, [isStr s x], rfl, ?_⟩
        simpa [isTup1] using h
      | x :: y :: r, hd, h =>
        have e : ¬ ((r.length : Int) + 1 + 1 = 1) := by omega
        simp [e]
        simpa [isTup1] using h
    | _ => first | exact h | (walk_at "dd"; exact h)
theorem v_is_told : VD g_is_told S_is_told 4 0 := fun ds Q _ h => by
  obtain ⟨d, s, m, n, rfl, ⟨hm, hn⟩, hd, hs, h⟩ := h
  unfold g_is_told
  walk_at "dd"
  cases d with
  | tuple xs =>
    walk_at "dd"
    refine ⟨rfl, rfl, ?_⟩
    simp only [PyData.eqv]
    match xs, hd, h with
    | [], hd, h =>
      refine ite_ways (fun e => h) (fun e => ?_)
      simp at e
      omega
    | x :: r, hd, h =>
      simp only [isTold] at h
      refine ite_ways (fun e => ?_) (fun e => ?_)
      · have e2 : ¬ ((r.length : Int) = m) := by
          intro z; simp at e; omega
        rw [show decide ((r.length : Int) = m) = false from by simpa using e2] at h
        exact h
      · have e2 : (r.length : Int) = m := by simp at e; omega
        rw [show decide ((r.length : Int) = m) = true from by simpa using e2] at h
        refine ⟨x, atI_zero, .inl ⟨x, s, rfl, okS_of ((hd _ rfl).2.2 x (by simp)), hs, ?_⟩⟩
        refine bool_ways (fun e3 => ?_) (fun e3 => ?_)
        · rw [e3] at h
          have cut : cutD (x :: r) (some 1) none = r := by
            unfold cutD HT.sIx
            have : min (Int.toNat 1) (r.length + 1) = 1 := by omega
            simp [this]
          rw [cut]
          refine ⟨_, m, n, rfl, fun xs e => ?_, hn, ?_⟩
          · cases e; have := (hd _ rfl).1; simp at this; omega
          · simpa using h
        · rw [e3] at h; exact h
  | _ => first | exact h | (walk_at "dd"; exact h)
theorem isRow_ints {r : List Int} {n m : Nat} (hl : r.length = m) (h : ∀ x, x ∈ r → 0 ≤ x ∧ x < n) (hn : n ≤ 24) : isRow (m : Int) (n : Int) (tI r) = true := by
  unfold isRow tI
  simp only [List.length_map, Bool.and_eq_true, decide_eq_true_eq, List.all_map, List.all_eq_true]
  exact ⟨by omega, fun x hx => isTh_in (h x hx).1 (h x hx).2 (by omega)⟩
theorem v_is_square : VD g_is_square S_is_square 3 1 := fun ds Q _ h => by
  obtain ⟨C, n, rfl, hC, hn, h⟩ := h
  have cl := hC.1
  unfold g_is_square tR
  walk_at "dd"
  rw [show decide ((0 : Int) ≤ (C.length : Int)) = true from by simp]
  walk_at "dd"
  rw [show decide ((C.length : Int) ≤ 8) = true from by simp; omega]
  walk_at "dd"
  refine wpLc_map (fun _ => .bool true) (by simp; omega) rfl (fun d hd K hK => ?_) (fun _ _ _ => rfl) ?_
  · walk_at "dd"
    obtain ⟨r, hr1, rfl⟩ := List.mem_map.mp hd
    have rr := hC.2 r hr1
    refine ⟨_, _, _, rfl, fun xs e => ?_, by first | omega | (simp; omega), ?_⟩
    · cases e; have := rr.1; simp; omega
    · rw [show isRow (C.length : Int) (C.length : Int) (tI r) = true from by rw [cl]; exact isRow_ints rr.1 rr.2 (by omega)]
      exact hK _ rfl
  · refine ⟨(C.map tI).map fun _ => true, by simp, ?_⟩
    rw [show ((C.map tI).map fun _ => true).all id = true from by simp]
    exact h
theorem v__check_dots : VD g__check_dots S__check_dots 1 0 := fun ds Q _ h => by
  obtain ⟨C, n, rfl, hC, hn, h⟩ := h
  unfold g__check_dots
  walk_at "dd"
  refine ⟨C, n, rfl, hC, hn, ?_⟩
  walk_at "dd"
  exact h
theorem v__is_pairs : VD g__is_pairs S__is_pairs 2 1 := fun ds Q _ h => by
  obtain ⟨r, n, rfl, hl, hn, hp, h⟩ := h
  unfold g__is_pairs tPs
  walk_at "dd"
  refine ⟨rfl, rfl, ?_⟩
  rw [eqv_int, show decide ((r.length : Int) = (n : Int)) = true from by simp [hl]]
  walk_at "dd"
  refine wpLc_map (fun _ => .bool true) (by simp; omega) rfl (fun d hd K hK => ?_) (fun _ _ _ => rfl) ?_
  · walk_at "dd"
    obtain ⟨p, hp1, rfl⟩ := List.mem_map.mp hd
    have pp := hp p hp1
    refine ⟨_, 2, n, rfl, fun xs e => ?_, by omega, ?_⟩
    · cases e; simp
    · rw [show isRow 2 (n : Int) (tP p) = true from isRow_ints (r := [p.1, p.2]) (m := 2) rfl (fun x hx => by simp at hx; rcases hx with rfl | rfl; exact pp.1; exact pp.2) (by omega)]
      exact hK _ rfl
  · refine ⟨(r.map tP).map fun _ => true, by simp, ?_⟩
    rw [show ((r.map tP).map fun _ => true).all id = true from by simp]
    exact h
theorem v__is_table_rows : VD g__is_table_rows S__is_table_rows 1 1 := fun ds Q _ h => by
  obtain ⟨R, n, rfl, hR, hn, h⟩ := h
  have rl := hR.1
  unfold g__is_table_rows tRP
  walk_at "dd"
  rw [show decide ((8 : Int) < (R.length : Int)) = false from by simp; omega]
  walk_at "dd"
  refine wpLc_map (fun _ => .bool true) (by simp; omega) rfl (fun d hd K hK => ?_) (fun _ _ _ => rfl) ?_
  · walk_at "dd"
    obtain ⟨r, hr1, rfl⟩ := List.mem_map.mp hd
    have rr := hR.2 r hr1
    exact ⟨r, n, by simp [rl], rr.1, hn, rr.2, hK _ rfl⟩
  · refine ⟨(R.map tPs).map fun _ => true, by simp, ?_⟩
    rw [show ((R.map tPs).map fun _ => true).all id = true from by simp]
    exact h
theorem v__check_rows : VD g__check_rows S__check_rows 1 0 := fun ds Q _ h => by
  obtain ⟨R, n, rfl, hR, hn, h⟩ := h
  unfold g__check_rows
  walk_at "dd"
  refine ⟨R, n, rfl, hR, hn, ?_⟩
  walk_at "dd"
  exact h
theorem v__threes : VD g__threes S__threes 1 4 := fun ds Q _ h => by
  obtain ⟨n, rfl, hn, h⟩ := h
  exact ⟨n, rfl, by omega, h⟩
end Dn
set_option Elab.async false
set_option linter.all false
set_option maxRecDepth 100000
set_option autoImplicit false
set_option maxHeartbeats 4000000
namespace Dn
open PySem L2 Evl PySem.Spec PyProof.Rows
local macro_rules | `(tactic| walk_at "dd") => `(tactic| simp only [sSeq, sIf, sSet, sRet, sRetN, sNx, sEx, sAsg, sPar, dTOr, dTAnd, dTNot, dTst, dIsi, dVar, dC, dBin, dChain, dNeg, dI2, dAnd, dOr, dNot, dIfE, dCall, dCallF, aCons, aNil, dTup, lLst, dOfL, xIm, xOw, gNm, gTp, gsCons, gsNil, dYes, envD, dLen_tR, dLen_tI, dLen_tup, dLen_lst, seq_tR, seq_tI, seq_tup, seq_lst, dIs, dIsNot, dNe, dEq, dTupOf, dSl, oNone, oSome, iSq, iEn, iR1, iR2, sFor, lLc, sNever, dTRg, rg1, rg2, lRg, wipeD, isN, optD,
  gTpL, dIxP, sSub, dApp, dPopAt, dExt, dCallM, dCallO, dBinO, dTupO, lOf, lOfO, sRetO, iOw, dVarF, lCat, lCall, dAbs, dMax2, dMin2, dInt, atO, setO, MO.getL, MO.putL, Option.isSome_some,
  dInK, dGetK, dGetD, dInD, dGet1, lKeys, lSort, dLenSet, dRevT, sPutK, xDct, xDct1, sRetK, atK, keyD, sAugI,
  kit_int, kit_bool, kit_tuple, kit_str, List.map_cons, List.map_nil, List.cons_append, List.nil_append, List.replicate, List.set_cons_zero, List.set_cons_succ, List.getElem?_cons_zero, List.getElem?_cons_succ, List.length_cons, List.length_nil, List.length_map, Nat.reduceAdd, Nat.reduceSub, Bool.not_true, Bool.not_false, Bool.false_eq_true, if_true, if_false, true_and, reduceCtorEq, Bool.true_eq_false, rgD_rgI, Option.some.injEq, exists_eq_left', and_true])
theorem ixPa {R : List (List (Int × Int))} {n : Nat} {x y : Int} {Q : D → Prop} (h : Pw n R) (hx : 0 ≤ x ∧ x < n) (hy : 0 ≤ y ∧ y < n) (k : Q (tP (pa R x y))) : dIx (tRP R) (.int x) fun r => dIx r (.int y) Q := by
  have rl := h.1
  have m := h.2 _ (getD_mem (l := R) (i := x.toNat) (d := []) (by omega))
  exact ixRP hx.1 (by omega) (ixPs hy.1 (by rw [m.1]; exact hy.2) k)
theorem pa_lt {R : List (List (Int × Int))} {n : Nat} {x y : Int} (h : Pw n R) (hx : 0 ≤ x ∧ x < n) (hy : 0 ≤ y ∧ y < n) : Pr n (pa R x y) := by
  have rl := h.1
  have m := h.2 _ (getD_mem (l := R) (i := x.toNat) (d := []) (by omega))
  exact m.2 _ (getD_mem (by rw [m.1]; omega))
theorem ixP0 {p : Int × Int} {Q : D → Prop} (k : Q (.int p.1)) : dIx (tP p) (.int 0) Q := ⟨.int p.1, atI_zero, k⟩
theorem atI_one {α : Type} {x y : α} {l : List α} : atI (x :: y :: l) 1 = some y := by
  unfold atI ixN
  have : (1 : Int).toNat = 1 := rfl
  have l2 : (1 : Int) < (l.length : Int) + 1 + 1 := by omega
  simp [this, l2]
theorem ixP1 {p : Int × Int} {Q : D → Prop} (k : Q (.int p.2)) : dIx (tP p) (.int 1) Q := ⟨.int p.2, atI_one, k⟩
theorem ixC {C : List (List Int)} {n : Nat} {x y : Int} {Q : D → Prop} (h : Dw n C) (hx : 0 ≤ x ∧ x < n) (hy : 0 ≤ y ∧ y < n) (k : Q (.int (dt C x y))) : dIx (tR C) (.int x) fun r => dIx r (.int y) Q := by
  have rl := h.1
  have m := h.2 _ (getD_mem (l := C) (i := x.toNat) (d := []) (by omega))
  exact ixR hx.1 (by omega) (ixI hy.1 (by rw [m.1]; exact hy.2) k)
theorem dt_lt {C : List (List Int)} {n : Nat} {x y : Int} (h : Dw n C) (hx : 0 ≤ x ∧ x < n) (hy : 0 ≤ y ∧ y < n) : 0 ≤ dt C x y ∧ dt C x y < n := by
  have rl := h.1
  have m := h.2 _ (getD_mem (l := C) (i := x.toNat) (d := []) (by omega))
  exact m.2 _ (getD_mem (by rw [m.1]; omega))
theorem v__passed_left_first : VD g__passed_left_first S__passed_left_first 4 3 := fun ds Q _ h => by
  obtain ⟨R, n, x, y, z, rfl, hR, hn, ht, h⟩ := h
  obtain ⟨hx, hy, hz⟩ : (0 ≤ x ∧ x < n) ∧ (0 ≤ y ∧ y < n) ∧ (0 ≤ z ∧ z < n) := mem_t3.1 ht
  unfold g__passed_left_first
  walk_at "dd"
  refine ixPa hR hx hy ?_
  have p1 := pa_lt hR hx hy
  simp only [tP]
  walk_at "dd"
  refine ixPa hR p1.2 hz ?_
  have p2 := pa_lt hR p1.2 hz
  simp only [tP]
  walk_at "dd"
  refine ixPa hR p1.1 p2.1 ?_
  simp only [tP]
  walk_at "dd"
  exact ⟨by decide, h⟩
theorem v__passed_right_first : VD g__passed_right_first S__passed_right_first 4 3 := fun ds Q _ h => by
  obtain ⟨R, n, x, y, z, rfl, hR, hn, ht, h⟩ := h
  obtain ⟨hx, hy, hz⟩ : (0 ≤ x ∧ x < n) ∧ (0 ≤ y ∧ y < n) ∧ (0 ≤ z ∧ z < n) := mem_t3.1 ht
  unfold g__passed_right_first
  walk_at "dd"
  refine ixPa hR hy hz ?_
  have p1 := pa_lt hR hy hz
  simp only [tP]
  walk_at "dd"
  refine ixPa hR hx p1.1 ?_
  have p2 := pa_lt hR hx p1.1
  simp only [tP]
  walk_at "dd"
  refine ixPa hR p2.2 p1.2 ?_
  simp only [tP]
  walk_at "dd"
  exact ⟨by decide, h⟩
theorem v__breaks_fair : VD g__breaks_fair S__breaks_fair 3 3 := fun ds Q _ h => by
  obtain ⟨R, n, s, x, y, z, rfl, hR, hn, hs, ht, h⟩ := h
  obtain ⟨hx, hy, hz⟩ : (0 ≤ x ∧ x < n) ∧ (0 ≤ y ∧ y < n) ∧ (0 ≤ z ∧ z < n) := mem_t3.1 ht
  unfold g__breaks_fair
  simp only [tI, List.map_cons, List.map_nil]
  walk_at "dd"
  simp only [List.mem_cons, List.not_mem_nil, or_false] at hs
  rcases hs with rfl | rfl | rfl
  · refine ⟨by decide +kernel, by decide +kernel, ?_⟩
    rw [show PyData.eqv (.str "left") (.str "left") = true from by decide +kernel]
    simp only [brk, if_true] at h
    walk_at "dd"
    refine bool_ways (fun e => ?_) (fun e => ?_)
    · rw [e] at h
      refine ixPa hR hx hy (ixP0 (ixPa hR hx hz (ixP0 ?_)))
      refine ⟨rfl, rfl, ?_⟩
      rw [eqv_int]
      simpa using h
    · rw [e] at h
      simpa using h
  · refine ⟨by decide +kernel, by decide +kernel, ?_⟩
    rw [show PyData.eqv (.str "right") (.str "left") = false from by decide +kernel]
    simp only [brk, if_neg (show ¬ (("right" : Str) = "left") from by decide), if_true] at h
    walk_at "dd"
    refine ⟨by decide +kernel, by decide +kernel, ?_⟩
    rw [show PyData.eqv (.str "right") (.str "right") = true from by decide +kernel]
    walk_at "dd"
    refine bool_ways (fun e => ?_) (fun e => ?_)
    · rw [e] at h
      refine ixPa hR hy hx (ixP1 (ixPa hR hz hx (ixP1 ?_)))
      refine ⟨rfl, rfl, ?_⟩
      rw [eqv_int]
      simpa using h
    · rw [e] at h
      simpa using h
  · refine ⟨by decide +kernel, by decide +kernel, ?_⟩
    rw [show PyData.eqv (.str "three") (.str "left") = false from by decide +kernel]
    simp only [brk, if_neg (show ¬ (("three" : Str) = "left") from by decide), if_neg (show ¬ (("three" : Str) = "right") from by decide)] at h
    walk_at "dd"
    refine ⟨by decide +kernel, by decide +kernel, ?_⟩
    rw [show PyData.eqv (.str "three") (.str "right") = false from by decide +kernel]
    walk_at "dd"
    refine ⟨R, n, x, y, z, rfl, hR, hn, ht, R, n, x, y, z, rfl, hR, hn, ht, ?_⟩
    refine ⟨shaped_tI _, shaped_tI _, ?_⟩
    rw [eqv_tI]
    simpa using h
theorem v__breaks_dots : VD g__breaks_dots S__breaks_dots 3 3 := fun ds Q _ h => by
  obtain ⟨C, n, s, x, y, z, rfl, hC, hn, hs, ht, h⟩ := h
  obtain ⟨hx, hy, hz⟩ : (0 ≤ x ∧ x < n) ∧ (0 ≤ y ∧ y < n) ∧ (0 ≤ z ∧ z < n) := mem_t3.1 ht
  unfold g__breaks_dots
  simp only [tI, List.map_cons, List.map_nil]
  walk_at "dd"
  simp only [List.mem_cons, List.not_mem_nil, or_false] at hs
  rcases hs with rfl | rfl
  · refine ⟨by decide +kernel, by decide +kernel, ?_⟩
    rw [show PyData.eqv (.str "row") (.str "row") = true from by decide +kernel]
    simp only [brd, if_true] at h
    walk_at "dd"
    refine bool_ways (fun e => ?_) (fun e => ?_)
    · rw [e] at h
      refine ixC hC hx hy (ixC hC hx hz ?_)
      refine ⟨rfl, rfl, ?_⟩
      rw [eqv_int]
      simpa using h
    · rw [e] at h
      simpa using h
  · refine ⟨by decide +kernel, by decide +kernel, ?_⟩
    rw [show PyData.eqv (.str "three") (.str "row") = false from by decide +kernel]
    simp only [brd, if_neg (show ¬ (("three" : Str) = "row") from by decide)] at h
    walk_at "dd"
    have a := dt_lt hC hx hy
    have b := dt_lt hC hx hz
    have c := dt_lt hC hy hx
    have d := dt_lt hC hy hz
    have cl := hC.1
    have ln : ∀ i : Int, 0 ≤ i ∧ i < n → (C.getD i.toNat []).length = n := fun i hi => (hC.2 _ (getD_mem (d := []) (by omega))).1
    refine ixC hC hx hy (ixR a.1 (by omega) (ixC hC hx hz (ixI b.1 (by rw [ln _ a]; exact b.2) ?_)))
    refine ixC hC hy hx (ixR c.1 (by omega) (ixC hC hy hz (ixI d.1 (by rw [ln _ c]; exact d.2) ?_)))
    refine ⟨rfl, rfl, ?_⟩
    rw [eqv_int]
    simpa [dt] using h
end Dn
set_option Elab.async false
set_option linter.all false
set_option maxRecDepth 100000
set_option autoImplicit false
set_option maxHeartbeats 4000000
namespace Dn
open PySem L2 Evl PySem.Spec PyProof.Rows
local macro_rules | `(tactic| walk_at "dd") => `(tactic| simp only [sSeq, sIf, sSet, sRet, sRetN, sNx, sEx, sAsg, sPar, dTOr, dTAnd, dTNot, dTst, dIsi, dVar, dC, dBin, dChain, dNeg, dI2, dAnd, dOr, dNot, dIfE, dCall, dCallF, aCons, aNil, dTup, lLst, dOfL, xIm, xOw, gNm, gTp, gsCons, gsNil, dYes, envD, dLen_tR, dLen_tI, dLen_tup, dLen_lst, seq_tR, seq_tI, seq_tup, seq_lst, dIs, dIsNot, dNe, dEq, dTupOf, dSl, oNone, oSome, iSq, iEn, iR1, iR2, sFor, lLc, sNever, dTRg, rg1, rg2, lRg, wipeD, isN, optD,
  gTpL, dIxP, sSub, dApp, dPopAt, dExt, dCallM, dCallO, dBinO, dTupO, lOf, lOfO, sRetO, iOw, dVarF, lCat, lCall, dAbs, dMax2, dMin2, dInt, atO, setO, MO.getL, MO.putL, Option.isSome_some,
  dInK, dGetK, dGetD, dInD, dGet1, lKeys, lSort, dLenSet, dLenSetL, dRevT, sPutK, xDct, xDct1, sRetK, atK, keyD, sAugI,
  kit_int, kit_bool, kit_tuple, kit_str, List.map_cons, List.map_nil, List.cons_append, List.nil_append, List.replicate, List.set_cons_zero, List.set_cons_succ, List.getElem?_cons_zero, List.getElem?_cons_succ, List.length_cons, List.length_nil, List.length_map, Nat.reduceAdd, Nat.reduceSub, Bool.not_true, Bool.not_false, Bool.false_eq_true, if_true, if_false, true_and, reduceCtorEq, Bool.true_eq_false, rgD_rgI, Option.some.injEq, exists_eq_left', and_true])
theorem dLen_tRP {R : List (List (Int × Int))} {Q : D → Prop} : dLen [tRP R] Q = Q (.int R.length) := by show Q _ = _; simp
theorem row_pw {R : List (List (Int × Int))} {n : Nat} {x : Int} (h : Pw n R) (hx : 0 ≤ x ∧ x < n) : (R.getD x.toNat []).length = n := by
  have rl := h.1
  exact (h.2 _ (getD_mem (l := R) (i := x.toNat) (d := []) (by omega))).1
theorem ixPy {R : List (List (Int × Int))} {n : Nat} {x y : Int} {Q : D → Prop} (h : Pw n R) (hx : 0 ≤ x ∧ x < n) (hy : 0 ≤ y ∧ y < n) (k : Q (tP (pa R x y))) : dIx (tPs (R.getD x.toNat [])) (.int y) Q :=
  ixPs hy.1 (by rw [row_pw h hx]; exact hy.2) k
theorem v__pass_alike : VD g__pass_alike S__pass_alike 5 6 := fun ds Q _ h => by
  obtain ⟨R, n, x, y, rfl, hR, hn, hx, hy, h⟩ := h
  have p1 := pa_lt hR hx hy
  unfold g__pass_alike
  walk_at "dd"
  refine ⟨_, rfl, ?_⟩
  rw [enD_map (R.getD (pa R x y).2.toNat []) tP (0, 0), row_pw hR p1.2]
  refine wpFor_fs (rgI n) (fun k => .tuple [.int k, tP (pa R (pa R x y).2 k)]) (fun z => if plf R x y z = prf R x y z then none else some (.bool false)) (fun ρ => ∃ x5 x6 x7 x8 x9 x10, ρ = [some (.im (tRP R)), some (.im (tPs (R.getD x.toNat []))), some (.im (tPs (R.getD y.toNat []))), some (.im (tPs (R.getD (pa R x y).1.toNat []))), some (.im (tPs (R.getD (pa R x y).2.toNat []))), x5, x6, x7, x8, x9, x10]) ⟨_, _, _, _, _, _, rfl⟩ (fun z hz ρ K B hI hq hk => ?_) (fun v hv => ?_) (fun hv ρ hI => ?_)
  · obtain ⟨x5, x6, x7, x8, x9, x10, rfl⟩ := hI
    have hz := mem_rgI.mp hz
    have p2 := pa_lt hR p1.2 hz
    have q1 := pa_lt hR hy hz
    have q2 := pa_lt hR hx q1.1
    simp only [tP]
    walk_at "dd"
    refine ixPy hR hy hz ?_
    simp only [tP]
    walk_at "dd"
    refine ixPy hR hx q1.1 ?_
    simp only [tP]
    walk_at "dd"
    refine ixPy hR p1.1 p2.1 ?_
    simp only [tP]
    try walk_at "dd"
    simp only [dAdd]
    refine ⟨by decide, by show 2 + 1 ≤ 16777216; decide, by decide, ?_⟩
    refine ixPa hR q2.2 q1.2 ?_
    simp only [tP, dAdd]
    refine ⟨by show 1 + 2 ≤ 16777216; decide, ?_⟩
    refine ⟨shaped_tI (plf R x y z), shaped_tI (prf R x y z), ?_⟩
    show if (!PyData.eqv (tI (plf R x y z)) (tI (prf R x y z))) = true then _ else _
    rw [eqv_tI]
    refine ite_ways (fun e => ?_) (fun e => ?_)
    · exact hq _ (if_neg (by simpa using e))
    · exact hk (if_pos (by simpa using e)) _ ⟨_, _, _, _, _, _, rfl⟩
  · obtain ⟨z, hz, e⟩ := List.exists_of_findSome?_eq_some hv
    split at e
    · cases e
    · rename_i ne
      cases e
      rw [show ((rgI n).all fun z => decide (plf R x y z = prf R x y z)) = false from by
        rw [Bool.eq_false_iff]
        intro w
        exact ne (by simpa using List.all_eq_true.mp w z hz)] at h
      exact h
  · obtain ⟨x5, x6, x7, x8, x9, x10, rfl⟩ := hI
    rw [show ((rgI n).all fun z => decide (plf R x y z = prf R x y z)) = true from by
      rw [List.all_eq_true]
      intro z hz
      have := List.findSome?_eq_none_iff.mp hv z hz
      simpa using this] at h
    try walk_at "dd"
    exact h
def lf (R : List (List (Int × Int))) (x : Int) : List Int := (R.getD x.toNat []).map (·.1)
def rt (R : List (List (Int × Int))) (x : Int) : List Int := R.map fun r => (r.getD x.toNat (0, 0)).2
theorem nodup_pairs {l : List Int} : l.Nodup ↔ ∀ i j : Nat, i < j → j < l.length → l.getD i 0 ≠ l.getD j 0 := by
  constructor
  · intro h i j ij jl e
    have a := List.pairwise_iff_getElem.mp h i j (by omega) jl ij
    simp only [List.getD_eq_getElem?_getD, List.getElem?_eq_getElem jl, List.getElem?_eq_getElem (show i < l.length by omega), Option.getD_some] at e
    exact a e
  · intro h
    refine List.pairwise_iff_getElem.mpr fun i j hi hj ij e => h i j ij hj ?_
    simp only [List.getD_eq_getElem?_getD, List.getElem?_eq_getElem hj, List.getElem?_eq_getElem hi, Option.getD_some]
    exact e
theorem lf_get {R : List (List (Int × Int))} {n : Nat} {x : Int} (h : Pw n R) (hx : 0 ≤ x ∧ x < n) {i : Nat} (hi : i < n) : (lf R x).getD i 0 = (pa R x i).1 := by
  unfold lf pa
  have rl := row_pw h hx
  simp only [List.getD_eq_getElem?_getD, List.getElem?_map, Int.toNat_natCast] at rl ⊢
  rw [List.getElem?_eq_getElem (by omega)]
  rfl
theorem rt_get {R : List (List (Int × Int))} {n : Nat} {x : Int} (h : Pw n R) {i : Nat} (hi : i < n) : (rt R x).getD i 0 = (pa R i x).2 := by
  unfold rt pa
  have rl := h.1
  simp only [List.getD_eq_getElem?_getD, List.getElem?_map, Int.toNat_natCast]
  rw [List.getElem?_eq_getElem (by omega)]
  rfl
theorem lf_nodup {R : List (List (Int × Int))} {n : Nat} {x : Int} (h : Pw n R) (hx : 0 ≤ x ∧ x < n) : (lf R x).Nodup ↔ ∀ y z : Int, 0 ≤ y → y < z → z < n → (pa R x y).1 ≠ (pa R x z).1 := by
  have ll : (lf R x).length = n := by unfold lf; rw [List.length_map, row_pw h hx]
  rw [nodup_pairs]
  constructor
  · intro w y z y0 yz zn
    have := w y.toNat z.toNat (by omega) (by omega)
    rw [lf_get h hx (by omega), lf_get h hx (by omega)] at this
    rwa [Int.toNat_of_nonneg y0, Int.toNat_of_nonneg (by omega)] at this
  · intro w i j ij jl
    rw [lf_get h hx (by omega), lf_get h hx (by omega)]
    exact w i j (by omega) (by omega) (by omega)
theorem rt_nodup {R : List (List (Int × Int))} {n : Nat} {x : Int} (h : Pw n R) : (rt R x).Nodup ↔ ∀ y z : Int, 0 ≤ y → y < z → z < n → (pa R y x).2 ≠ (pa R z x).2 := by
  have ll : (rt R x).length = n := by unfold rt; rw [List.length_map, h.1]
  rw [nodup_pairs]
  constructor
  · intro w y z y0 yz zn
    have := w y.toNat z.toNat (by omega) (by omega)
    rw [rt_get h (by omega), rt_get h (by omega)] at this
    rwa [Int.toNat_of_nonneg y0, Int.toNat_of_nonneg (by omega)] at this
  · intro w i j ij jl
    rw [rt_get h (by omega), rt_get h (by omega)]
    exact w i j (by omega) (by omega) (by omega)
theorem fair_iff {R : List (List (Int × Int))} {n : Nat} (h : Pw n R) : noBrk (brk R) W3 n ↔ (∀ x, x ∈ rgI n → (lf R x).Nodup ∧ (rt R x).Nodup) ∧ ∀ x, x ∈ rgI n → ∀ y, y ∈ rgI n → ((rgI n).all fun z => decide (plf R x y z = prf R x y z)) = true := by
  have l1 : ∀ x y z, brk R "left" x y z = (decide (y < z) && decide ((pa R x y).1 = (pa R x z).1)) := fun x y z => by simp only [brk, if_true]
  have l2 : ∀ x y z, brk R "right" x y z = (decide (y < z) && decide ((pa R y x).2 = (pa R z x).2)) := fun x y z => by simp only [brk, if_neg (show ¬ (("right" : Str) = "left") from by decide), if_true]
  have l3 : ∀ x y z, brk R "three" x y z = decide (plf R x y z ≠ prf R x y z) := fun x y z => by simp only [brk, if_neg (show ¬ (("three" : Str) = "left") from by decide), if_neg (show ¬ (("three" : Str) = "right") from by decide)]
  constructor
  · intro w
    refine ⟨fun x hx => ⟨(lf_nodup h (mem_rgI.mp hx)).2 fun y z y0 yz zn e => ?_, (rt_nodup h).2 fun y z y0 yz zn e => ?_⟩, fun x hx y hy => List.all_eq_true.mpr fun z hz => ?_⟩
    · have := w "left" (by simp) (x, y, z) (mem_t3.2 ⟨mem_rgI.mp hx, by simp; omega, by simp; omega⟩)
      dsimp only at this
      rw [l1] at this
      simp [yz, e] at this
    · have := w "right" (by simp) (x, y, z) (mem_t3.2 ⟨mem_rgI.mp hx, by simp; omega, by simp; omega⟩)
      dsimp only at this
      rw [l2] at this
      simp [yz, e] at this
    · have := w "three" (by simp) (x, y, z) (mem_t3.2 ⟨mem_rgI.mp hx, mem_rgI.mp hy, mem_rgI.mp hz⟩)
      dsimp only at this
      rw [l3] at this
      simpa using this
  · rintro ⟨w1, w2⟩ s hs ⟨x, y, z⟩ ht
    obtain ⟨hx, hy, hz⟩ : (0 ≤ x ∧ x < n) ∧ (0 ≤ y ∧ y < n) ∧ (0 ≤ z ∧ z < n) := mem_t3.1 ht
    dsimp only
    simp only [List.mem_cons, List.not_mem_nil, or_false] at hs
    rcases hs with rfl | rfl | rfl
    · rw [l1]
      by_cases yz : y < z
      · have := (lf_nodup h hx).1 (w1 x (mem_rgI.mpr hx)).1 y z hy.1 yz hz.2
        simp [this]
      · simp [yz]
    · rw [l2]
      by_cases yz : y < z
      · have := (rt_nodup h).1 (w1 x (mem_rgI.mpr hx)).2 y z hy.1 yz hz.2
        simp [this]
      · simp [yz]
    · rw [l3]
      have := List.all_eq_true.mp (w2 x (mem_rgI.mpr hx) y (mem_rgI.mpr hy)) z (mem_rgI.mpr hz)
      simpa using this
theorem v_are_fair_rows : VD g_are_fair_rows S_are_fair_rows 1 9 := fun ds Q _ h => by
  obtain ⟨R, n, rfl, hR, hn, h⟩ := h
  have rl := hR.1
  unfold g_are_fair_rows
  walk_at "dd"
  refine ⟨_, rfl, ?_⟩
  rw [enD_map R tPs [], rl]
  refine wpFor_fs (rgI n) (fun k => .tuple [.int k, tPs (R.getD k.toNat [])]) (fun x => if (lf R x).Nodup ∧ (rt R x).Nodup then none else some (.bool false)) (fun ρ => ∃ x1 x2 x3 x4 x5 x6 x7 x8 x9, ρ = [some (.im (tRP R)), x1, x2, x3, x4, x5, x6, x7, x8, x9]) ⟨_, _, _, _, _, _, _, _, _, rfl⟩ (fun x hx ρ K B hI hq hk => ?_) (fun v hv => ?_) (fun hv ρ hI => ?_)
  · obtain ⟨x1, x2, x3, x4, x5, x6, x7, x8, x9, rfl⟩ := hI
    have hx := mem_rgI.mp hx
    walk_at "dd"
    refine ⟨_, rfl, ?_⟩
    refine wpLc_mapL (R.getD x.toNat []) tP (fun p => .int p.1) (by rw [row_pw hR hx]; omega) rfl (fun p _ K2 hK => ?_) (fun _ => rfl) ?_
    · walk_at "dd"
      exact ixP0 (hK _ rfl)
    walk_at "dd"
    refine ⟨_, rfl, ?_⟩
    refine wpLc_mapL R tPs (fun r => .int (r.getD x.toNat (0, 0)).2) (by omega) rfl (fun r hr K2 hK => ?_) (fun _ => rfl) ?_
    · walk_at "dd"
      refine ixPs hx.1 (by rw [(hR.2 r hr).1]; exact hx.2) (ixP1 (hK _ rfl))
    walk_at "dd"
    refine ⟨lf R x, by unfold lf; rw [List.map_map]; rfl, by unfold lf; rw [List.length_map, row_pw hR hx]; omega, fun a ha1 ha2 => ?_⟩
    try walk_at "dd"
    rw [dLen_tRP, rl]
    try walk_at "dd"
    have ll : (lf R x).length = n := by unfold lf; rw [List.length_map, row_pw hR hx]
    have rl2 : (rt R x).length = n := by unfold rt; rw [List.length_map, rl]
    rw [ll] at ha1 ha2
    refine ite_ways (fun e => ?_) (fun e => ?_)
    · refine hq _ (if_neg fun w => ?_)
      have := ha2.2 w.1
      simp at e
      omega
    · have n1 : (lf R x).Nodup := ha2.1 (by simp at e; omega)
      refine ⟨rt R x, by unfold rt; rw [List.map_map]; rfl, by omega, fun b hb1 hb2 => ?_⟩
      rw [rl2] at hb1 hb2
      rw [dLen_tRP, rl]
      try walk_at "dd"
      refine ite_ways (fun e => ?_) (fun e => ?_)
      · refine hq _ (if_neg fun w => ?_)
        have := hb2.2 w.2
        simp at e
        omega
      · have n2 : (rt R x).Nodup := hb2.1 (by simp at e; omega)
        exact hk (if_pos ⟨n1, n2⟩) _ ⟨_, _, _, _, _, _, _, _, _, rfl⟩
  · obtain ⟨x, hx, e⟩ := List.exists_of_findSome?_eq_some hv
    split at e
    · cases e
    · rename_i ne
      cases e
      rw [show decide (noBrk (brk R) W3 n) = false from decide_eq_false fun w => ne (((fair_iff hR).1 w).1 x hx)] at h
      exact h
  · have all1 : ∀ x, x ∈ rgI n → (lf R x).Nodup ∧ (rt R x).Nodup := fun x hx => by
      have := List.findSome?_eq_none_iff.mp hv x hx
      exact Classical.byContradiction fun z => by rw [if_neg z] at this; cases this
    obtain ⟨x1, x2, x3, x4, x5, x6, x7, x8, x9, rfl⟩ := hI
    walk_at "dd"
    refine ⟨_, rfl, ?_⟩
    rw [enD_map R tPs [], rl]
    refine wpFor_fs (rgI n) (fun k => .tuple [.int k, tPs (R.getD k.toNat [])]) (fun x => (rgI n).findSome? fun y => if ((rgI n).all fun z => decide (plf R x y z = prf R x y z)) = true then none else some (.bool false)) (fun ρ => ∃ x1 x2 x3 x4 x5 x6 x7 x8 x9, ρ = [some (.im (tRP R)), x1, x2, x3, x4, x5, x6, x7, x8, x9]) ⟨_, _, _, _, _, _, _, _, _, rfl⟩ (fun x hx ρ K B hI hq hk => ?_) (fun v hv => ?_) (fun hv ρ hI => ?_)
    · obtain ⟨x1, x2, x3, x4, x5, x6, x7, x8, x9, rfl⟩ := hI
      have hx := mem_rgI.mp hx
      walk_at "dd"
      refine ⟨_, rfl, ?_⟩
      rw [enD_map (R.getD x.toNat []) tP (0, 0), row_pw hR hx]
      refine wpFor_fs (rgI n) (fun k => .tuple [.int k, tP (pa R x k)]) (fun y => if ((rgI n).all fun z => decide (plf R x y z = prf R x y z)) = true then none else some (.bool false)) (fun ρ => ∃ x3 x4 x5 x6 x7 x8 x9, ρ = [some (.im (tRP R)), some (.im (.int x)), some (.im (tPs (R.getD x.toNat []))), x3, x4, x5, x6, x7, x8, x9]) ⟨_, _, _, _, _, _, _, rfl⟩ (fun y hy ρ K2 B2 hI2 hq2 hk2 => ?_) hq (fun hv ρ hI2 => ?_)
      · obtain ⟨x3, x4, x5, x6, x7, x8, x9, rfl⟩ := hI2
        have hy := mem_rgI.mp hy
        have p1 := pa_lt hR hx hy
        simp only [tP]
        walk_at "dd"
        refine ixRP hy.1 (by omega) ?_
        try walk_at "dd"
        refine ixRP p1.1.1 (by rw [rl]; exact p1.1.2) ?_
        try walk_at "dd"
        refine ixRP p1.2.1 (by rw [rl]; exact p1.2.2) ?_
        try walk_at "dd"
        refine ⟨R, n, x, y, rfl, hR, hn, hx, hy, ?_⟩
        refine ite_ways (fun e => ?_) (fun e => ?_)
        · exact hq2 _ (if_neg (by simpa using e))
        · exact hk2 (if_pos (by simpa using e)) _ ⟨_, _, _, _, _, _, _, rfl⟩
      · obtain ⟨x3, x4, x5, x6, x7, x8, x9, rfl⟩ := hI2
        exact hk hv _ ⟨_, _, _, _, _, _, _, _, _, rfl⟩
    · obtain ⟨x, hx, e⟩ := List.exists_of_findSome?_eq_some hv
      obtain ⟨y, hy, e⟩ := List.exists_of_findSome?_eq_some e
      split at e
      · cases e
      · rename_i ne
        cases e
        rw [show decide (noBrk (brk R) W3 n) = false from decide_eq_false fun w => ne (((fair_iff hR).1 w).2 x hx y hy)] at h
        exact h
    · obtain ⟨x1, x2, x3, x4, x5, x6, x7, x8, x9, rfl⟩ := hI
      rw [show decide (noBrk (brk R) W3 n) = true from decide_eq_true ((fair_iff hR).2 ⟨all1, fun x hx y hy => by
        have := List.findSome?_eq_none_iff.mp (List.findSome?_eq_none_iff.mp hv x hx) y hy
        exact Classical.byContradiction fun z => by rw [if_neg z] at this; cases this⟩)] at h
      try walk_at "dd"
      exact h
end Dn
set_option Elab.async false
set_option linter.all false
set_option maxRecDepth 100000
set_option autoImplicit false
set_option maxHeartbeats 4000000
namespace Dn
open PySem L2 Evl PySem.Spec PyProof.Rows
local macro_rules | `(tactic| walk_at "dd") => `(tactic| simp only [sSeq, sIf, sSet, sRet, sRetN, sNx, sEx, sAsg, sPar, dTOr, dTAnd, dTNot, dTst, dIsi, dVar, dC, dBin, dChain, dNeg, dI2, dAnd, dOr, dNot, dIfE, dCall, dCallF, aCons, aNil, dTup, lLst, dOfL, xIm, xOw, gNm, gTp, gsCons, gsNil, dYes, envD, dLen_tR, dLen_tI, dLen_tup, dLen_lst, seq_tR, seq_tI, seq_tup, seq_lst, dIs, dIsNot, dNe, dEq, dTupOf, dSl, oNone, oSome, iSq, iEn, iR1, iR2, sFor, lLc, sNever, dTRg, rg1, rg2, lRg, wipeD, isN, optD,
  gTpL, dIxP, sSub, dApp, dPopAt, dExt, dCallM, dCallO, dBinO, dTupO, lOf, lOfO, sRetO, iOw, dVarF, lCat, lCall, dAbs, dMax2, dMin2, dInt, atO, setO, MO.getL, MO.putL, Option.isSome_some,
  dInK, dGetK, dGetD, dInD, dGet1, lKeys, lSort, dLenSet, dRevT, sPutK, xDct, xDct1, sRetK, atK, keyD, sAugI,
  kit_int, kit_bool, kit_tuple, kit_str, List.map_cons, List.map_nil, List.cons_append, List.nil_append, List.replicate, List.set_cons_zero, List.set_cons_succ, List.getElem?_cons_zero, List.getElem?_cons_succ, List.length_cons, List.length_nil, List.length_map, Nat.reduceAdd, Nat.reduceSub, Bool.not_true, Bool.not_false, Bool.false_eq_true, if_true, if_false, true_and, reduceCtorEq, Bool.true_eq_false, rgD_rgI, Option.some.injEq, exists_eq_left', and_true])
theorem wpFor_all {g : DG} {body : DS} {E : DEnds} {ds : List D} {ρ0 : Env} (I : Env → Prop) (P : D → Prop) (h0 : I ρ0)
    (hs : ∀ d, d ∈ ds → ∀ (ρ : Env) (K : Env → Prop), I ρ → (P d → ∀ ρ', I ρ' → K ρ') → g d ρ fun ρ1 => body { nx := K, ct := K, bk := E.nx, rt := E.rt } ρ1)
    (he : ∀ ρ, I ρ → (∀ d, d ∈ ds → P d) → E.nx ρ) : wpFor g body E ds ρ0 :=
  wpFor_cps (fun done ρ => I ρ ∧ ∀ d, d ∈ done → P d) ⟨h0, by simp⟩ (fun done d rest ρ K e p k => hs d (by rw [e]; simp) ρ K p.1 fun pd ρ' i => k ρ' ⟨i, fun x hx => by
    rcases List.mem_append.mp hx with hx | hx
    · exact p.2 x hx
    · rw [List.mem_singleton.mp hx]; exact pd⟩) fun ρ p => he ρ p.1 p.2
theorem pap_ne {s f : Str} {x y z : Int} : (.tuple [.str s, .int x, .int y, .int z] : D) ≠ fineD f := by
  unfold fineD
  intro h
  have := PyData.tuple.inj h
  simp at this
theorem v__broken_paper : VD g__broken_paper S__broken_paper 1 3 := fun ds Q _ h => by
  obtain ⟨R, n, rfl, hR, hn, hb, h⟩ := h
  have rl := hR.1
  unfold g__broken_paper
  walk_at "dd"
  rw [dLen_tRP, rl]
  refine ⟨n, rfl, hn, by decide, ?_⟩
  refine wpFor_all (fun ρ => ∃ a b, ρ = [some (.im (tRP R)), some (.im (.list ((t3 n).map tT))), a, b]) (fun d => ∀ s, d = .str s → ∀ t, t ∈ t3 n → brk R s t.1 t.2.1 t.2.2 = false) ⟨_, _, rfl⟩ (fun d hd ρ K hI k => ?_) (fun ρ hI hall => ?_)
  · obtain ⟨a, b, rfl⟩ := hI
    obtain ⟨w, hw, rfl⟩ : ∃ w, w ∈ W3 ∧ d = .str w := by
      simp only [List.mem_cons, List.not_mem_nil, or_false] at hd
      rcases hd with rfl | rfl | rfl <;> exact ⟨_, by simp, rfl⟩
    walk_at "dd"
    refine wpFor_all (fun ρ => ∃ b, ρ = [some (.im (tRP R)), some (.im (.list ((t3 n).map tT))), some (.im (.str w)), b]) (fun d => ∀ t, d = tT t → brk R w t.1 t.2.1 t.2.2 = false) ⟨_, rfl⟩ (fun d hd ρ K hI k2 => ?_) (fun ρ hI hall => ?_)
    · obtain ⟨b, rfl⟩ := hI
      obtain ⟨t, ht, rfl⟩ := List.mem_map.mp hd
      walk_at "dd"
      refine ⟨R, n, w, t.1, t.2.1, t.2.2, rfl, hR, hn, hw, ht, ?_⟩
      refine ite_ways (fun e => ?_) (fun e => ?_)
      · simp only [tT, dAdd]
        refine ⟨by decide, by show 1 + 3 ≤ 16777216; decide, ?_⟩
        exact h _ (.inr ⟨w, t.1, t.2.1, t.2.2, hw, ht, rfl⟩) pap_ne
      · exact k2 (fun t' e' => by
          have : t = t' := by
            obtain ⟨x, y, z⟩ := t
            obtain ⟨x', y', z'⟩ := t'
            simpa [tT] using e'
          subst this
          exact e) _ ⟨_, rfl⟩
    · obtain ⟨b, rfl⟩ := hI
      refine k (fun s e t ht => ?_) _ ⟨_, _, rfl⟩
      cases e
      exact hall _ (List.mem_map.mpr ⟨t, ht, rfl⟩) t rfl
  · obtain ⟨a, b, rfl⟩ := hI
    refine absurd (fun s hs t ht => hall (.str s) ?_ s rfl t ht) hb
    simp only [List.mem_cons, List.not_mem_nil, or_false] at hs ⊢
    rcases hs with rfl | rfl | rfl <;> simp
theorem v_fair_paper : VD g_fair_paper S_fair_paper 1 0 := fun ds Q _ h => by
  obtain ⟨R, n, rfl, hR, hn, h⟩ := h
  unfold g_fair_paper
  walk_at "dd"
  refine ⟨R, n, rfl, hR, hn, R, n, rfl, hR, hn, ?_⟩
  by_cases e : noBrk (brk R) W3 n
  · rw [decide_eq_true e]
    try walk_at "dd"
    exact ⟨by decide, h _ (.inl rfl) ⟨fun _ => e, fun _ => rfl⟩⟩
  · rw [decide_eq_false e]
    try walk_at "dd"
    exact ⟨R, n, rfl, hR, hn, e, fun p hp ne => h p hp ⟨fun z => absurd z ne, fun z => absurd z e⟩⟩
theorem v_dots_paper : VD g_dots_paper S_dots_paper 1 3 := fun ds Q _ h => by
  obtain ⟨C, n, rfl, hR, hn, h⟩ := h
  have rl := hR.1
  unfold g_dots_paper
  walk_at "dd"
  refine ⟨C, n, rfl, hR, hn, ?_⟩
  dsimp only
  rw [rl]
  refine ⟨n, rfl, by omega, by decide, ?_⟩
  refine wpFor_all (fun ρ => ∃ a b, ρ = [some (.im (tR C)), some (.im (.list ((t3 n).map tT))), a, b]) (fun d => ∀ s, d = .str s → ∀ t, t ∈ t3 n → brd C s t.1 t.2.1 t.2.2 = false) ⟨_, _, rfl⟩ (fun d hd ρ K hI k => ?_) (fun ρ hI hall => ?_)
  · obtain ⟨a, b, rfl⟩ := hI
    obtain ⟨w, hw, rfl⟩ : ∃ w, w ∈ W2 ∧ d = .str w := by
      simp only [List.mem_cons, List.not_mem_nil, or_false] at hd
      rcases hd with rfl | rfl <;> exact ⟨_, by simp, rfl⟩
    walk_at "dd"
    refine wpFor_all (fun ρ => ∃ b, ρ = [some (.im (tR C)), some (.im (.list ((t3 n).map tT))), some (.im (.str w)), b]) (fun d => ∀ t, d = tT t → brd C w t.1 t.2.1 t.2.2 = false) ⟨_, rfl⟩ (fun d hd ρ K hI k2 => ?_) (fun ρ hI hall => ?_)
    · obtain ⟨b, rfl⟩ := hI
      obtain ⟨t, ht, rfl⟩ := List.mem_map.mp hd
      walk_at "dd"
      refine ⟨C, n, w, t.1, t.2.1, t.2.2, rfl, hR, by omega, hw, ht, ?_⟩
      refine ite_ways (fun e => ?_) (fun e => ?_)
      · simp only [tT, dAdd]
        refine ⟨by decide, by show 1 + 3 ≤ 16777216; decide, ?_⟩
        refine h _ (.inr ⟨w, t.1, t.2.1, t.2.2, hw, ht, rfl⟩) ⟨fun z => absurd z pap_ne, fun z => ?_⟩
        have := z w hw t ht
        rw [e] at this; cases this
      · exact k2 (fun t' e' => by
          have : t = t' := by
            obtain ⟨x, y, z⟩ := t
            obtain ⟨x', y', z'⟩ := t'
            simpa [tT] using e'
          subst this
          exact e) _ ⟨_, rfl⟩
    · obtain ⟨b, rfl⟩ := hI
      refine k (fun s e t ht => ?_) _ ⟨_, _, rfl⟩
      cases e
      exact hall _ (List.mem_map.mpr ⟨t, ht, rfl⟩) t rfl
  · obtain ⟨a, b, rfl⟩ := hI
    walk_at "dd"
    refine ⟨by decide, h _ (.inl rfl) ⟨fun _ s hs t ht => hall (.str s) ?_ s rfl t ht, fun _ => rfl⟩⟩
    simp only [List.mem_cons, List.not_mem_nil, or_false] at hs ⊢
    rcases hs with rfl | rfl <;> simp

/-- what is_told and is_same find of a value -/
theorem told_shape {s : Str} {n : Int} {d : D} (h : isTold s 3 n d = true) : ∃ x y z : Int, d = .tuple [.str s, .int x, .int y, .int z] ∧ isTh n (.int x) = true ∧ isTh n (.int y) = true ∧ isTh n (.int z) = true := by
  unfold isTold at h
  split at h
  · rename_i x r
    simp only [Bool.and_eq_true, decide_eq_true_eq] at h
    obtain ⟨hl, hs, hr⟩ := h
    have hs' : x = .str s := by
      unfold isStr at hs
      split at hs
      · rename_i t; simp at hs; rw [hs]
      · cases hs
    subst hs'
    match r, hl with
    | [a, b, c], _ =>
      simp only [isRow, List.all_cons, List.all_nil, Bool.and_true, Bool.and_eq_true] at hr
      obtain ⟨_, h1, h2, h3⟩ := hr
      obtain ⟨x, rfl, _⟩ := isTh_int h1
      obtain ⟨y, rfl, _⟩ := isTh_int h2
      obtain ⟨z, rfl, _⟩ := isTh_int h3
      exact ⟨x, y, z, rfl, h1, h2, h3⟩
    | [], hl => simp at hl
    | [_], hl => simp at hl
    | [_, _], hl => simp at hl
    | _ :: _ :: _ :: _ :: r, hl => simp at hl; omega
  · cases h
theorem told_of {s : Str} {n : Int} {x y z : Int} (h1 : isTh n (.int x) = true) (h2 : isTh n (.int y) = true) (h3 : isTh n (.int z) = true) : isTold s 3 n (.tuple [.str s, .int x, .int y, .int z]) = true := by
  simp [isTold, isStr, isRow, h1, h2, h3]
theorem tup1_shape {s : Str} {d : D} (h : isTup1 s d = true) : d = .tuple [.str s] := by
  unfold isTup1 at h
  split at h
  · rename_i x
    unfold isStr at h
    split at h
    · simp at h; rw [h]
    · cases h
  · cases h
/-- no word is told: only the last paper is right -/
theorem judge_no {b : Str → Int → Int → Int → Bool} {ws : List Str} {fine : Str} {n : Nat} {v : D} (h : ∀ s, s ∈ ws → isTold s 3 n v = false) : judge b ws fine n v = (isTup1 fine v && decide (noBrk b ws n)) := by
  unfold judge
  split
  · simp [isTup1, isStr]
  · rename_i s x y z
    by_cases hs : s ∈ ws
    · have := h s hs
      by_cases h1 : isTh n (.int x) = true
      · by_cases h2 : isTh n (.int y) = true
        · by_cases h3 : isTh n (.int z) = true
          · rw [told_of h1 h2 h3] at this; cases this
          · simp [h3, isTup1]
        · simp [h2, isTup1]
      · simp [h1, isTup1]
    · simp [hs, isTup1]
  · rename_i h1 h2
    by_cases e : isTup1 fine v = true
    · exact absurd (tup1_shape e) (h1 fine)
    · simp [e]
theorem judge_yes {b : Str → Int → Int → Int → Bool} {ws : List Str} {fine s : Str} {n : Nat} {x y z : Int} (hs : s ∈ ws) (h1 : isTh n (.int x) = true) (h2 : isTh n (.int y) = true) (h3 : isTh n (.int z) = true) : judge b ws fine n (.tuple [.str s, .int x, .int y, .int z]) = b s x y z := by
  simp [judge, hs, h1, h2, h3]
theorem th_t3 {n : Nat} {x y z : Int} (h1 : isTh n (.int x) = true) (h2 : isTh n (.int y) = true) (h3 : isTh n (.int z) = true) : (x, y, z) ∈ t3 n := by
  obtain ⟨_, e1, p1⟩ := isTh_int h1
  obtain ⟨_, e2, p2⟩ := isTh_int h2
  obtain ⟨_, e3, p3⟩ := isTh_int h3
  cases e1; cases e2; cases e3
  exact mem_t3.2 ⟨p1, p2, p3⟩
def Fl (d : D) : Prop := d.canLay0 = true ∧ d.depth ≤ 3
theorem fl_all : ∀ {xs : List D}, (∀ x, x ∈ xs → Fl x) → PyData.canLayAll0 xs = true ∧ PyData.depthAll xs ≤ 3
  | [], _ => by simp [PyData.canLayAll0, PyData.depthAll]
  | x :: xs, h => by
    have a := fl_all (xs := xs) fun y hy => h y (by simp [hy])
    have b := h x (by simp)
    simp only [PyData.canLayAll0, PyData.depthAll, Bool.and_eq_true]
    exact ⟨⟨b.1, a.1⟩, Nat.max_le.2 ⟨b.2, a.2⟩⟩
theorem shaped_tup {xs : List D} (h : ∀ x, x ∈ xs → Fl x) : SeqAt.shaped (.tuple xs) = true := by
  have a := fl_all h
  unfold SeqAt.shaped
  simp only [PyData.canLay0, PyData.depth, a.1, Bool.true_and, decide_eq_true_eq]
  have := a.2
  exact decide_eq_true (by omega)
theorem Fl.shaped {d : D} (h : Fl d) : SeqAt.shaped d = true := by
  unfold SeqAt.shaped
  rw [h.1, Bool.true_and, decide_eq_true_eq]
  have := h.2
  omega
theorem fl_int (i : Int) : Fl (.int i) := ⟨rfl, by simp [PyData.depth]⟩
theorem fl_str {s : Str} (h : SeqAt.shaped (.str s) = true) : Fl (.str s) := ⟨SeqAt.canLay_of_shaped h, by simp [PyData.depth]⟩
theorem okV_tup {xs : List D} (hl : xs.length ≤ 100000) (h : ∀ x, x ∈ xs → Fl x) : okV (.tuple xs) := fun ys e => by
  cases e
  exact ⟨hl, shaped_tup h, fun x hx => (h x hx).shaped⟩
theorem okV_no {d : D} (h : ∀ xs, d ≠ .tuple xs) : okV d := fun xs e => absurd e (h xs)
theorem pap_shaped {ws : List Str} {fine : Str} {n : Nat} {p : D} (hf : SeqAt.shaped (fineD fine) = true) (hw : ∀ s, s ∈ ws → SeqAt.shaped (.str s) = true) (h : IsPap ws fine n p) : SeqAt.shaped p = true := by
  rcases h with rfl | ⟨s, x, y, z, hs, _, rfl⟩
  · exact hf
  · exact shaped_tup fun d hd => by
      simp only [List.mem_cons, List.not_mem_nil, or_false] at hd
      rcases hd with rfl | rfl | rfl | rfl
      · exact fl_str (hw s hs)
      all_goals exact fl_int _
theorem pap_eqv {ws : List Str} {fine : Str} {n : Nat} {p : D} {P : Prop} [Decidable P] (he : PyData.eqv (fineD fine) (fineD fine) = true) (h : IsPap ws fine n p) (hq : p = fineD fine ↔ P) : PyData.eqv p (fineD fine) = decide P := by
  by_cases hp : P
  · rw [hq.2 hp, he]; simp [hp]
  · rcases h with rfl | ⟨s, x, y, z, _, _, rfl⟩
    · exact absurd (hq.1 rfl) hp
    · simp [fineD, PyData.eqv, PyData.eqvAll, hp]
theorem v_is_fair_paper : VD g_is_fair_paper S_is_fair_paper 2 1 := fun ds Q _ h => by
  obtain ⟨R, n, v, rfl, hR, hn, hv, h⟩ := h
  have rl := hR.1
  unfold g_is_fair_paper
  walk_at "dd"
  refine ⟨R, n, rfl, hR, hn, ?_⟩
  dsimp only
  refine ⟨by decide, ?_⟩
  refine wpFor_all (fun ρ => ∃ a, ρ = [some (.im (tRP R)), some (.im v), a]) (fun d => ∀ s, d = .str s → isTold s 3 n v = false) ⟨_, rfl⟩ (fun d hd ρ K hI k => ?_) (fun ρ hI hall => ?_)
  · obtain ⟨a, rfl⟩ := hI
    obtain ⟨w, hw, sw, rfl⟩ : ∃ w, w ∈ W3 ∧ SeqAt.shaped (.str w) = true ∧ d = .str w := by
      simp only [List.mem_cons, List.not_mem_nil, or_false] at hd
      rcases hd with rfl | rfl | rfl <;> exact ⟨_, by simp, by decide +kernel, rfl⟩
    walk_at "dd"
    rw [dLen_tRP, rl]
    refine ⟨v, w, 3, n, rfl, ⟨by decide, by omega⟩, hv, sw, ?_⟩
    refine ite_ways (fun e => ?_) (fun e => ?_)
    · obtain ⟨x, y, z, rfl, h1, h2, h3⟩ := told_shape e
      rw [judge_yes hw h1 h2 h3] at h
      refine ⟨R, n, w, x, y, z, ?_, hR, hn, hw, th_t3 h1 h2 h3, h⟩
      rfl
    · exact k (fun s e' => by cases e'; exact e) _ ⟨_, rfl⟩
  · obtain ⟨a, rfl⟩ := hI
    have none3 : ∀ s, s ∈ W3 → isTold s 3 n v = false := fun s hs => hall (.str s) (by
      simp only [List.mem_cons, List.not_mem_nil, or_false] at hs ⊢
      rcases hs with rfl | rfl | rfl <;> simp) s rfl
    rw [judge_no none3] at h
    walk_at "dd"
    refine ⟨by decide, .inr ⟨v, "fair", rfl, hv, by decide +kernel, ?_⟩⟩
    refine bool_ways (fun e => ?_) (fun e => ?_)
    · rw [e, Bool.true_and] at h
      exact ⟨R, n, rfl, hR, hn, h⟩
    · rw [e] at h; exact h
theorem v_is_dots_paper : VD g_is_dots_paper S_is_dots_paper 2 1 := fun ds Q _ h => by
  obtain ⟨C, n, v, rfl, hR, hn, hv, h⟩ := h
  have rl := hR.1
  unfold g_is_dots_paper
  walk_at "dd"
  refine ⟨C, n, rfl, hR, hn, ?_⟩
  dsimp only
  refine ⟨by decide, ?_⟩
  refine wpFor_all (fun ρ => ∃ a, ρ = [some (.im (tR C)), some (.im v), a]) (fun d => ∀ s, d = .str s → isTold s 3 n v = false) ⟨_, rfl⟩ (fun d hd ρ K hI k => ?_) (fun ρ hI hall => ?_)
  · obtain ⟨a, rfl⟩ := hI
    obtain ⟨w, hw, sw, rfl⟩ : ∃ w, w ∈ W2 ∧ SeqAt.shaped (.str w) = true ∧ d = .str w := by
      simp only [List.mem_cons, List.not_mem_nil, or_false] at hd
      rcases hd with rfl | rfl <;> exact ⟨_, by simp, by decide +kernel, rfl⟩
    walk_at "dd"
    rw [rl]
    refine ⟨v, w, 3, n, rfl, ⟨by decide, by omega⟩, hv, sw, ?_⟩
    refine ite_ways (fun e => ?_) (fun e => ?_)
    · obtain ⟨x, y, z, rfl, h1, h2, h3⟩ := told_shape e
      rw [judge_yes hw h1 h2 h3] at h
      refine ⟨C, n, w, x, y, z, ?_, hR, by omega, hw, th_t3 h1 h2 h3, h⟩
      rfl
    · exact k (fun s e' => by cases e'; exact e) _ ⟨_, rfl⟩
  · obtain ⟨a, rfl⟩ := hI
    have none3 : ∀ s, s ∈ W2 → isTold s 3 n v = false := fun s hs => hall (.str s) (by
      simp only [List.mem_cons, List.not_mem_nil, or_false] at hs ⊢
      rcases hs with rfl | rfl <;> simp) s rfl
    rw [judge_no none3] at h
    walk_at "dd"
    refine ⟨by decide, .inr ⟨v, "dots", rfl, hv, by decide +kernel, ?_⟩⟩
    refine bool_ways (fun e => ?_) (fun e => ?_)
    · rw [e, Bool.true_and] at h
      refine ⟨C, n, rfl, hR, hn, fun p hp hq => ?_⟩
      refine ⟨by decide, pap_shaped (by decide +kernel) (by decide +kernel) hp, by decide +kernel, ?_⟩
      have := pap_eqv (by decide +kernel) hp hq
      unfold fineD at this
      rw [this]
      exact h
    · rw [e] at h; exact h
end Dn
set_option Elab.async false
set_option linter.all false
set_option maxRecDepth 100000
set_option autoImplicit false
set_option maxHeartbeats 4000000
namespace Dn.K69
open PySem L2 Evl PySem.Spec PyProof.Rows
/-- does this paper tell what is so -/
def brs (C : List (List Int)) (s : Str) (x y z : Int) : Bool :=
  if s = "row" then decide (y < z) && decide (dt C x y = dt C x z) else decide (dt C x (dt C y z) ≠ dt C (dt C x y) (dt C x z))
def firstBrk (C : List (List Int)) (n : Nat) : Option D := W2.findSome? fun s => (t3 n).findSome? fun t => if brs C s t.1 t.2.1 t.2.2 = true then some (.tuple [.str s, .int t.1, .int t.2.1, .int t.2.2]) else none
def papOf (C : List (List Int)) (n : Nat) : D := (firstBrk C n).getD (fineD "shadow")
def S_joined_moves (ds : List D) (Q : D → Prop) : Prop := ∃ (n : Nat) (a b : List Int), ds = [tI a, tI b] ∧ a.length = n ∧ n ≤ 24 ∧ (∀ x, x ∈ b → 0 ≤ x ∧ x < n) ∧ b.length ≤ 24 ∧ Q (tI (b.map fun x => a.getD x.toNat 0))
def S__check_rows (ds : List D) (Q : D → Prop) : Prop := ∃ C n, ds = [tR C] ∧ Dw n C ∧ n ≤ 5 ∧ Q .none
def S__is_shadow (ds : List D) (Q : D → Prop) : Prop := ∃ C n, ds = [tR C] ∧ Dw n C ∧ n ≤ 5 ∧ Q (.bool (decide (noBrk (brs C) W2 n)))
def S__breaks_shadow (ds : List D) (Q : D → Prop) : Prop := ∃ C n s x y z, ds = [tR C, .str s, tI [x, y, z]] ∧ Dw n C ∧ n ≤ 8 ∧ s ∈ W2 ∧ (x, y, z) ∈ t3 n ∧ Q (.bool (brs C s x y z))
def S__broken_paper (ds : List D) (Q : D → Prop) : Prop := ∃ C n p, ds = [tR C] ∧ Dw n C ∧ n ≤ 5 ∧ firstBrk C n = some p ∧ Q p
def S_shadow_paper (ds : List D) (Q : D → Prop) : Prop := ∃ C n, ds = [tR C] ∧ Dw n C ∧ n ≤ 5 ∧ Q (papOf C n)
def S_is_shadow_paper (ds : List D) (Q : D → Prop) : Prop := ∃ C n v, ds = [tR C, v] ∧ Dw n C ∧ n ≤ 5 ∧ okV v ∧ Q (.bool (judge (brs C) W2 "shadow" n v))
def S__law_left_of (ds : List D) (Q : D → Prop) : Prop := ∃ R n, ds = [tRP R] ∧ Pw n R ∧ n ≤ 5 ∧ ∀ L, Dw n L → Q (tL L)
def S__law_right_of (ds : List D) (Q : D → Prop) : Prop := ∃ R n, ds = [tRP R] ∧ Pw n R ∧ n ≤ 5 ∧ ∀ L, Dw n L → Q (tL L)
def S__law_shadow_rows (ds : List D) (Q : D → Prop) : Prop := ∃ R n, ds = [tRP R] ∧ Pw n R ∧ n ≤ 5 ∧ ∀ C, Dw n C → Q (tR C)
def S__law_is_shadow (ds : List D) (Q : D → Prop) : Prop := ∃ C n, ds = [tR C] ∧ Dw n C ∧ n ≤ 5 ∧ Q (.bool (decide (noBrk (brs C) W2 n)))
def S__law_shows (ds : List D) (Q : D → Prop) : Prop := ∃ C n v, ds = [tR C, v] ∧ Dw n C ∧ n ≤ 5 ∧ okV v ∧ Q (.bool (judge (brs C) W2 "shadow" n v))
def S__law_first_paper (ds : List D) (Q : D → Prop) : Prop := ∃ C n, ds = [tR C] ∧ Dw n C ∧ n ≤ 5 ∧ Q (papOf C n)
def S__law_fair_rows (ms ds : List D) (Q : D → List D → Prop) : Prop := ∃ least most : Nat, ds = [.int least, .int most] ∧ 1 ≤ least ∧ 1 ≤ most ∧ most ≤ 5 ∧ least ≤ most ∧ Dc ms ∧ ∀ R n ms', Pw n R → 1 ≤ n → n ≤ most → Dc ms' → Q (tRP R) ms'
def S__law_near_rows (ms ds : List D) (Q : D → List D → Prop) : Prop := ds = [] ∧ Dc ms ∧ ∀ C n ms', Dw n C → 1 ≤ n → n ≤ 5 → Dc ms' → Q (tR C) ms'
def S__law_values (ms ds : List D) (Q : D → List D → Prop) : Prop := ∃ C n p, ds = [tR C, p] ∧ Dw n C ∧ 1 ≤ n ∧ n ≤ 5 ∧ IsPap W2 "shadow" n p ∧ Dc ms ∧ ∀ vs ms', (∀ v, v ∈ vs → okV v) → vs.length ≤ 1000 → Dc ms' → Q (.list vs) ms'
def S_law (ds : List D) (Q : D → Prop) : Prop := ∃ s, ds = [scr s] ∧ s.length ≤ 63 ∧ Q (.bool true)
end Dn.K69
set_option Elab.async false
set_option linter.all false
set_option maxRecDepth 100000
set_option autoImplicit false
set_option maxHeartbeats 4000000
/-! a range that a frame keeps under a name; [(x, y, z) for x in letters for y in letters for z in letters] of it -/
namespace Dn
open PySem L2 Evl Cq PyProof.Rows
section
variable {X : Cx} {e : Expr} {fe : DE} {pos : Pos}
def xRng (fe : DE) : DX := fun ρ Q => fe ρ fun d ρ1 => ∃ j : Int, d = .int j ∧ Q (.ow (.rng j)) ρ1
theorem jx_rng {q2 q4 : Pos} (hm : X.mg "range" = none) (he : JE X e fe) (hg : Gl X "range" := by rfl)
    (hst : starEach [e] X.env = (false, eval e X.env) :: starEach [] X.env := by rfl) (hpl : (backTo q4 (starEach [] X.env)).any (·.1) = false := by rfl) : JX X (.Call (.Name "range" q2) [e] [] q4) (xRng fe) := by
  obtain ⟨te, pe, ke⟩ := he.ex
  refine ⟨_, pe_callTy cr_range1 hg hm boot_range (pa_cons pe pa_nil hst) (by decide) (by decide) hst hpl, fun T ρ σ H QD Q r h q => ke T ρ σ H _ _ r h fun d ρ1 v H1 r1 p1 v1 h => ?_⟩
  obtain ⟨j, rfl, h⟩ := h
  cases v1
  refine ⟨j, rfl, fun p hp => ?_⟩
  have hp0 : H p = none := by
    cases z : H p with
    | none => rfl
    | some o => exact absurd hp (p1.dom p (by rw [z]; simp))
  exact q (SV.ow (.rng j)) ρ1 _ _ ⟨p, .rng 0 j, rfl, hp0, upd_same, r1.laid hp, ⟨rfl, rfl⟩, fun _ _ z => nomatch z⟩ (p1.trans (.grow (Ex.new hp))) h
def dThr : DE := fun ρ Q => ρ.length = 7 ∧ ∃ n : Nat, ρ[1]? = some (some (.ow (.rng n))) ∧ n ≤ 60 ∧ Q (.list ((t3 n).map tT)) ρ
theorem je_thr {sc : Scope} {p2 p3 p4 p5 p6 p7 p8 p9 pa pb pc : Pos} {kk} {l : Str} (hc : X.calm = true) (hN : X.N.Nodup) (n1 : X.N[1]? = some l) (hd : (l == ("__debug__" : Str)) = false := by decide) (hcd : (l == ("__classdict__" : Str)) = false := by decide)
    (v1 : Vis X.env.scope l) (ok : BlkOk X.N X.env.scope sc [("x", 4), ("y", 5), ("z", 6)])
    (pi1 : InBlk X sc fun Y => PE Y (.Name l p5) (tVar 1)) (pi2 : InBlk X sc fun Y => PE Y (.Name l p7) (tVar 1))
    (gx : InBlk X sc fun Y => PG Y (.Name "x" p2) (gName 4)) (gy : InBlk X sc fun Y => PG Y (.Name "y" p4) (gName 5)) (gz : InBlk X sc fun Y => PG Y (.Name "z" p6) (gName 6))
    (el : InBlk X sc fun Y => PE Y (.Tuple [.Name "x" p8, .Name "y" p9, .Name "z" pa] kk pb) (tTup (tCons (tVar 4) (tCons (tVar 5) (tCons (tVar 6) tNil))))) :
    JE X (.ListComp (.Tuple [.Name "x" p8, .Name "y" p9, .Name "z" pa] kk pb) [⟨.Name "x" p2, .Name l p3, [], 0⟩, ⟨.Name "y" p4, .Name l p5, [], 0⟩, ⟨.Name "z" p6, .Name l p7, [], 0⟩] sc pc) dThr := by
  have acts : ∀ D, InBlk X sc fun Y => Act Y (aFor (.ListComp (.Tuple [.Name "x" p8, .Name "y" p9, .Name "z" pa] kk pb) [⟨.Name "x" p2, .Name l p3, [], 0⟩, ⟨.Name "y" p4, .Name l p5, [], 0⟩, ⟨.Name "z" p6, .Name l p7, [], 0⟩] sc pc) 1 (.Name l p5)) (.ref D) [5, 6]
      (bFor (iRg (tVar 1)) (gName 5) tYes (bFor (iRg (tVar 1)) (gName 6) tYes (bApp D (tTup (tCons (tVar 4) (tCons (tVar 5) (tCons (tVar 6) tNil))))) [6]) [5, 6]) := fun D s H C cl fp => by
    have e1 := el s H C cl fp
    have y1 := pi1 s H C cl fp
    have y2 := pi2 s H C cl fp
    have z1 := gy s H C cl fp
    have z2 := gz s H C cl fp
    generalize hY : X.blk s H sc (compEnvC sc cl C X.env) fp = Y at e1 y1 y2 z1 z2
    have x1 : Y.xe = fun _ _ => False := by rw [← hY]
    have x2 : Y.calm = true := by rw [← hY]; exact hc
    exact act_for x1 x2 rfl turn3_1 (pi_rg (tg := .Name "y" p4) y1) z1 pts_nil (act_for x1 x2 rfl turn3_2 (pi_rg (tg := .Name "z" p6) y2) z2 pts_nil (act_app x1 e1) (by intro i hi; cases hi) (fun _ => rfl)) (by intro i hi; simp at hi ⊢; exact .inr hi) (fun _ => rfl)
  have a2 := pe_lcN (X := X) (pos := pc) (own := [("x", 4), ("y", 5), ("z", 6)]) (vin := [5, 6]) (act := aFor _ 1 (.Name l p5))
    (bd := fun D => bFor (iRg (tVar 1)) (gName 5) tYes (bFor (iRg (tVar 1)) (gName 6) tYes (bApp D (tTup (tCons (tVar 4) (tCons (tVar 5) (tCons (tVar 6) tNil))))) [6]) [5, 6]) (wi := iRg (tVar 1)) (g := gName 4) (tt := tYes)
    hc hN turn3_0 (pi_rg (tg := .Name "x" p2) (pe_var (i := 1) (pos := p3) n1 v1 hd hcd)) ok (by decide) gx (fun _ _ _ _ _ => pts_nil)
    acts (fun _ => rfl)
  refine ⟨_, a2, fun T ρ σ H QD Q r h k => ?_⟩
  obtain ⟨hl, n, hm, hn, h⟩ := h
  obtain ⟨p, o, s1, hp, ho⟩ := r.ow 1 _ hm
  obtain ⟨rfl⟩ : o = .rng 0 n := by
    cases o with
    | rng lo hi => obtain ⟨e1, e2⟩ := ho; rw [e1, e2]
    | _ => exact False.elim ho
  have len : σ.length = 7 := by rw [← r.len]; exact hl
  obtain ⟨b0, b1, b2, b3, b4, b5, b6, rfl⟩ : ∃ b0 b1 b2 b3 b4 b5 b6, σ = [b0, b1, b2, b3, b4, b5, b6] := by
    match σ, len with
    | [b0, b1, b2, b3, b4, b5, b6], _ => exact ⟨_, _, _, _, _, _, _, rfl⟩
  simp at s1
  subst s1
  refine ⟨_, rfl, p, n, rfl, hp, by omega, by omega, fun L hL => ?_⟩
  refine clause_W (i := 4) (vs := [4, 5, 6]) (H1 := H) (L := L) (n := n) (σ := [b0, some (.ref p), b2, b3, b4, b5, b6])
    (bd := bFor (iRg (tVar 1)) (gName 5) tYes (bFor (iRg (tVar 1)) (gName 6) tYes (bApp L (tTup (tCons (tVar 4) (tCons (tVar 5) (tCons (tVar 6) tNil))))) [6]) [5, 6])
    (fun x => (rgI n).flatMap fun y => (rgI n).map fun z => (x, y, z)) (ts := []) (Nx := fun H' => Q (.ref L) H') (fun x => rfl) (fun x us H' Ny hx t e k1 => ?_) ⟨Ex.new hL, [], upd_same, .nil⟩ (fun H' t => ?_)
  · have cap : ∀ us : List (Int × Int × Int), us.length ≤ n * (n * n) → us.length < 16777216 := fun us l => by
      have a := Nat.mul_le_mul hn (Nat.mul_le_mul hn hn)
      omega
    refine clause_ok (p := p) (n := n) (fun y => (rgI n).map fun z => ((x : Int), y, z)) hp (by omega) (fun H' Q q => ⟨_, rfl, q⟩) (fun x => rfl) (fun y us2 H2 Nz hy t2 e2 k2 => ?_) t k1
    refine clause_ok (p := p) (n := n) (fun z => [((x : Int), (y : Int), z)]) hp (by omega) (fun H' Q q => ⟨_, rfl, q⟩) (fun x => rfl) (fun z us3 H3 Nw hz t3' e3 k3 => ?_) t2 (fun H3 q => k2 H3 (by rw [← flat_one]; exact q))
    refine tri_step t3' hL (cap _ ?_) rfl rfl rfl k3
    have c1 : us.length = x * (n * n) := by
      rw [e, List.nil_append, flat_len _ _ (n * n) fun a _ => ?_, rgI_len]
      rw [flat_len _ _ n fun b _ => by rw [List.length_map, rgI_len], rgI_len]
    have c2 : us2.length = us.length + y * n := by
      rw [e2, List.length_append, flat_len _ _ n fun b _ => by rw [List.length_map, rgI_len], rgI_len]
    have c3 : us3.length = us2.length + z := by
      rw [e3, List.length_append, flat_len _ _ 1 fun b _ => rfl, rgI_len, Nat.mul_one]
    have h1 : (x + 1) * (n * n) ≤ n * (n * n) := Nat.mul_le_mul_right _ hx
    have h2 : (y + 1) * n ≤ n * n := Nat.mul_le_mul_right _ hy
    rw [Nat.succ_mul] at h1 h2
    omega
  · obtain ⟨eX, us, hl2, hp3⟩ := t
    rw [List.nil_append] at hp3
    have noO : ∀ a, Hd T ρ [b0, some (.ref p), b2, b3, b4, b5, b6] a → H a ≠ none := fun a => r.hdDom
    exact k _ _ _ _ (r.grow eX) (.grow eX) (.lst (hide_some.2 ⟨fun w => noO L w hL, hl2⟩) (tri_rp noO hp3)) h
end
end Dn
set_option Elab.async false
set_option linter.all false
set_option maxRecDepth 100000
set_option autoImplicit false
set_option maxHeartbeats 4000000
/-! a[i][j] = e, told by its shape; str(i) -/
namespace Dn
open PySem L2 Evl PySem.Spec PyProof.Rows
theorem Qs.store1e {K : PySem.W.Frag} {T B : Addr → Prop} {p : Addr} {ρ : Env} {σ : L2.St} {H : Hp} (q : Qs K T B p ρ σ H) {m : Nat} {w v : V} {d : D} {ds : List D} (h2 : Rp K (hide (Hd T ρ σ) H) w (.list ds)) (n0 : ∀ x, x ∈ ds → NL x) (nd : NL d) (rv : Rp K (hide (Hd T ρ σ) H) v d) :
    ∃ b xs ρ3, w = .ref b ∧ H b = some (.lst xs) ∧ xs.length = ds.length ∧ Qs K T B p ρ3 σ (upd H b (.lst (xs.set m v))) ∧ Kp B p H (upd H b (.lst (xs.set m v))) ∧ ChE (Ch (ds.set m d)) ρ ρ3 ∧
      ∀ u e, NL e → Rp K (hide (Hd T ρ σ) H) u e → Rp K (hide (Hd T ρ3 σ) (upd H b (.lst (xs.set m v)))) u e := by
  cases h2 with
  | @lst b xs _ g1 rr =>
    obtain ⟨nb, hl⟩ := hide_some.1 g1
    have nt : ¬ T b := fun z => nb (q.hd.2 (.inl z))
    have np : b ≠ p := fun z => nb (q.hd.2 (.inr z))
    have g2 : hide (Hd T ρ σ) (upd H b (.lst (xs.set m v))) b = some (.lst (xs.set m v)) := hide_some.2 ⟨nb, upd_same⟩
    have ne : ∀ x, x ∈ ds.set m d → NL x := fun x hx => (List.mem_or_eq_of_mem_set hx).elim (n0 x) fun z => by rw [z]; exact nd
    obtain ⟨ρ3, a1, a2, a3, a4⟩ := q.store (us := xs.set m v) (R := Ch (ds.set m d)) hl nt np fun _ pd _ r => by
      obtain ⟨d', r', c⟩ := pl_change (hide_upd) g1 g2 rr n0 (rr.set m rv) ne (by simp) pd r
      exact ⟨d', r', c, c.pl ne pd⟩
    exact ⟨b, xs, ρ3, rfl, hl, rr.length, a1, a2, a3, fun u e n r => by rw [a4]; exact nl_keep hide_upd g1 n r⟩
def gSubBE (fe fk : DE) : DG := fun d ρ QD => ∀ p, Fr p ρ → NL d ∧ fe ρ fun dd ρ1 => Fr p ρ1 ∧ fk ρ1 fun kk ρ2 => Fr p ρ2 ∧ ∃ ds j m, dd = .list ds ∧ kk = .int j ∧ ixN ds.length j = some m ∧ (∀ x, x ∈ ds → NL x) ∧ ∀ ρ3, ChE (Ch (ds.set m d)) ρ2 ρ3 → QD ρ3
section
variable {X : Cx} {o b : Expr} {pos ps : Pos}
theorem jgb_subE {f0 f1 : DE} (ho : JE X o f0) (hi : JE X b f1)
    (ha : ∀ v, assign (.Subscript o b ps) X.env v = (do
      let ov ← holding [v] (eval o X.env); let iv ← holding [v, ov] (eval b X.env); standAt ps; holding [v, ov, iv] (setItem ov iv v); release [v, ov, iv] []) := by intro _; rfl) : JGB X NL (.Subscript o b ps) (gSubBE f0 f1) := by
  obtain ⟨t0, p0, k0⟩ := ho.ex
  obtain ⟨t1, p1, k1⟩ := hi.ex
  refine ⟨_, pg_sub p0 p1 set_list ha, fun T B p ρ σ H v d QD Q q rv h k => ?_⟩
  obtain ⟨nd, h⟩ := h p q.fr
  refine k0 T ρ σ H _ _ q.rs h fun dd ρ1 w H1 r1 po1 v1 h => ?_
  refine k1 T ρ1 σ H1 _ _ r1 h.2 fun kk ρ2 z H2 r2 po2 v2 h2 => ?_
  obtain ⟨f2, ds, j, m, rfl, rfl, e2, n0, h2⟩ := h2
  have q1 := q.step r1 po1 h.1
  have q2 := q1.step r2 po2 f2
  obtain ⟨l, xs, ρ3, rfl, a2, a3, a4, a5, a6, a7⟩ := q2.store1e (m := m) (v1.mono po2.fz) n0 nd ((rv.mono po1.fz).mono po2.fz)
  cases v2
  exact ⟨l, xs, j, m, rfl, rfl, a2, by rw [a3]; exact e2, k ρ3 _ a4 (((q.kp po1).trans (q1.kp po2)).trans a5) (fun u e ne ru => a7 u e ne ((ru.mono po1.fz).mono po2.fz)) (h2 ρ3 a6)⟩
def dStrI : List D → (D → Prop) → Prop
  | [.int i] => fun Q => i.natAbs.log2 < 1920 ∧ Q (.str (toString i))
  | _ => fun _ => False
theorem calld_strI : CallD X (.type "str") dStrI := by
  refine ⟨_, call_str_int, fun O H vs ds QD Q hO r h k => ?_⟩
  unfold dStrI at h
  split at h
  · obtain ⟨v, rfl, w1⟩ := rp1 r
    cases w1
    exact ⟨_, rfl, h.1, k _ _ H (.refl H) (.str _) h.2⟩
  · exact False.elim h
end
end Dn
set_option Elab.async false
set_option linter.all false
set_option maxRecDepth 100000
set_option autoImplicit false
set_option maxHeartbeats 4000000
/-! a, b, c = e1, e2, [..]: the third one a new object that the frame owns -/
namespace Dn
open PySem L2 Evl PySem.Spec PyProof.Rows
def sPar3 (i j k : Nat) (f g : DE) (h : DX) : DS := fun E ρ => f ρ fun d1 ρ1 => g ρ1 fun d2 ρ2 => h ρ2 fun s3 ρ3 => E.nx (((ρ3.set i (some (.im d1))).set j (some (.im d2))).set k (some s3))
section
variable {X : Cx} {a b c : Expr} {pos : Pos} {x y z : Str}
theorem js_par3 {i j k : Nat} {f g : DE} {h : DX} {px py pz pt : Pos} {kt k2 pt2} (hc : X.calm = true) (hN : X.N.Nodup) (hi : X.N[i]? = some x) (hj : X.N[j]? = some y) (hk : X.N[k]? = some z) (hij : i ≠ j) (hik : i ≠ k) (hjk : j ≠ k)
    (hx : X.env.scope.names.lookup x = some .local) (hy : X.env.scope.names.lookup y = some .local) (hz : X.env.scope.names.lookup z = some .local)
    (ha : JE X a f) (hb : JE X b g) (hcc : JX X c h)
    (hw : swappedStores [.Tuple [.Name x px, .Name y py, .Name z pz] kt pt] (.Tuple [a, b, c] k2 pt2) X.env = pure (some [x, y, z])) (hs : swapsWithSole [.Tuple [.Name x px, .Name y py, .Name z pz] kt pt] (.Tuple [a, b, c] k2 pt2) pos.line X.env = pure false := by rfl)
    (h1 : starEach [a, b, c] X.env = (false, eval a X.env) :: starEach [b, c] X.env := by rfl) (h2 : starEach [b, c] X.env = (false, eval b X.env) :: starEach [c] X.env := by rfl) (h3 : starEach [c] X.env = (false, eval c X.env) :: starEach [] X.env := by rfl) :
    JS X (.Assign [.Tuple [.Name x px, .Name y py, .Name z pz] kt pt] (.Tuple [a, b, c] k2 pt2) pos) (sPar3 i j k f g h) := by
  obtain ⟨t1, p1, k1⟩ := ha.ex
  obtain ⟨t2, p2, k2⟩ := hb.ex
  obtain ⟨t3, p3, k3⟩ := hcc.ex
  refine ⟨_, ps_par3 hc hN hi hj hk hij hik hjk hx hy hz (pa_cons p1 (pa_cons p2 (pa_cons p3 pa_nil h3) h2) h1) hw hs, fun T ρ σ H E D r h kk => ?_⟩
  refine k1 T ρ σ H _ _ r h fun d1 ρ1 v H1 r1 q1 v1 h => k2 T ρ1 σ H1 _ _ r1 h fun d2 ρ2 w H2 r2 q2 v2 h => k3 T ρ2 σ H2 _ _ r2 h fun s3 ρ3 u H3 f3 q3 h => ⟨v, w, u, rfl, ?_⟩
  obtain ⟨r4, q4⟩ := fits_set (i := k) r2 q3 f3
  have r5 := r4.setIm (i := j) (v2.mono q4.fz)
  have e5 := q4.trans (Po.setIm (i := j) (d := d2) (v := w))
  have r6 := r5.setIm (i := i) ((v1.mono q2.fz).mono e5.fz)
  have e6 := e5.trans (Po.setIm (i := i) (d := d1) (v := v))
  rw [setc hjk.symm, setc hik.symm, setc hij.symm, setc hjk.symm, setc hik.symm, setc hij.symm] at r6 e6
  exact kk.nx _ _ _ r6 ((q1.trans q2).trans e6) h
end
end Dn
set_option Elab.async false
set_option linter.all false
set_option maxRecDepth 100000
set_option autoImplicit false
set_option maxHeartbeats 4000000
/-! len(set(t)), t a tuple of ints: how it stands to len(t) -/
namespace Dn
open PySem L2 Evl PySem.Spec PyProof.Rows
section
variable {X : Cx} {a : Expr} {fa : DE} {pos p : Pos}
def tLenSetT2 (K : PySem.W.Frag) (ta : TE) : TE := fun σ H Q => ta σ H fun x H1 => ∃ (l : Addr) (ns : List Int), x = V.ref l ∧ SqT K H1 l (ns.map V.int) ∧ ns.length ≤ 4000 ∧ ∀ n : Nat, n ≤ ns.length → (n = ns.length ↔ ns.Nodup) → Q (.int n) H1
theorem pe_lenSetT2 {a : Expr} {ta : TE} {p p2 q pos : Pos} (hc : X.calm = true) (hg : Gl X "len") (hm : X.mg "len" = none) (hg2 : Gl X "set") (hm2 : X.mg "set" = none) (ha : PE X a ta)
    (na : starEach [a] X.env = (false, eval a X.env) :: starEach [] X.env := by rfl) : PE X (.Call (.Name "len" p) [.Call (.Name "set" p2) [a] [] q] [] pos) (tLenSetT2 X.K ta) := by
  refine ⟨fun pins s σ H Q I h => ?_⟩
  refine Call_ (ld_blt I hg hm PySem.boot_len ?_)
  refine PyProof.Rows.callWith_builtin1 (PyProof.Rows.args_cons ?_ rfl) rfl rfl
  refine Call_ (ld_blt I hg2 hm2 PyProof.Rows.boot_set ?_)
  refine PyProof.Rows.callWith_type1 (PyProof.Rows.args_cons (thn (ha.run pins s σ H _ I h) fun v s1 ⟨x, H1, I1, r1, q1⟩ => PyProof.Rows.args_nil ?_) na) na rfl
  obtain ⟨l, ns, rfl, hq, h1, q1⟩ := q1
  cases r1
  obtain ⟨its, r, pl, hz⟩ := I1.tuple hq
  refine call_set_tupI ns (I1.ok.hd hc) pl (by simpa using r.ints) (by unfold scanBound; omega) fun h' tk c R hc2 hk => ?_
  refine PyProof.Rows.args_nil ?_
  obtain ⟨o, es, ep, t, ho, hex, hd, _, nd, hm, hb, hf, hn, _⟩ := R
  have I2 : Inv X pins σ H1 { s1 with heap := h', toks := tk } := I1.kept fun b o e => hk b o e
  have hl := nodup_iff_len _ ns nd fun k => by rw [← hm k]; simp
  rw [List.length_map, Array.length_toList] at hl
  refine call_len_set ho hex hd hf (by omega) ⟨.int es.size, H1, I2.tok _, ⟨_, rfl⟩, q1 _ hl.1 hl.2⟩
def dLenSet2 (fa : DE) : DE := fun ρ Q => fa ρ fun z ρ1 => ∃ ns : List Int, z = .tuple (ns.map PyData.int) ∧ ns.length ≤ 4000 ∧ ∀ n : Nat, n ≤ ns.length → (n = ns.length ↔ ns.Nodup) → Q (.int n) ρ1
theorem je_lenSet2 {p2 q : Pos} (hc : X.calm = true) (hm : X.mg "len" = none) (hm2 : X.mg "set" = none) (ha : JE X a fa) (hg : Gl X "len" := by rfl) (hg2 : Gl X "set" := by rfl)
    (na : starEach [a] X.env = (false, eval a X.env) :: starEach [] X.env := by rfl) : JE X (.Call (.Name "len" p) [.Call (.Name "set" p2) [a] [] q] [] pos) (dLenSet2 fa) := by
  obtain ⟨ta, pa, ka⟩ := ha.ex
  refine ⟨_, pe_lenSetT2 hc hg hm hg2 hm2 pa na, fun T ρ σ H QD Q r h q => ka T ρ σ H _ _ r h fun z ρ1 v H1 r1 p1 v1 h => ?_⟩
  obtain ⟨ns, rfl, h1, h2⟩ := h
  cases v1 with
  | tup hp rr =>
    obtain rfl := rr.of_ints
    exact ⟨_, ns, rfl, sqt_of hp, h1, fun n hn0 hn => q _ _ _ _ r1 p1 (.int _) (h2 n hn0 hn)⟩
end
end Dn
set_option Elab.async false
set_option linter.all false
set_option maxRecDepth 100000
set_option autoImplicit false
set_option maxHeartbeats 4000000
namespace Dn.K69
open PySem L2 Evl PySem.Spec PyProof.Rows
abbrev N_joined_moves : List Str := ["one", "other", "thing"]
abbrev P_joined_moves : List Str := ["one", "other"]
def g_joined_moves : DS := sRet (dCall dTupOf (aCons (dOfL (lLc (iSq (dVar 1)) (gNm 2) (dYes) (dBin dIx (dVar 0) (dVar 2)) [2])) (aNil)))
abbrev N__check_rows : List Str := ["rows"]
abbrev P__check_rows : List Str := ["rows"]
def g__check_rows : DS := sIf (dTNot (dTst (dCallF 3 S_is_square (aCons (dVar 0) (aCons (dC (.int 0)) (aCons (dC (.int 8)) (aNil))))))) (sNever) (sNx)
abbrev N__is_shadow : List Str := ["rows", "row", "y", "goal"]
abbrev P__is_shadow : List Str := ["rows"]
def g__is_shadow : DS := sSeq (sIf (dTNot (dTst (dCall dAll (aCons (dOfL (lLc (iSq (dVar 0)) (gNm 1) (dYes) (dCallF 2 S_is_move_of (aCons (dVar 1) (aCons (dCall dLen (aCons (dVar 0) (aNil))) (aNil)))) [1])) (aNil))))) (sRet (dC (.bool false))) (sNx)) (sSeq (sFor (iSq (dVar 0)) (gNm 1) (sFor (iEn (dVar 1)) (gTp 2 (gsCons (gNm 2) (gsCons (gNm 3) (gsNil)))) (sIf (dTst (dBin dNe (dCallF 2 S_joined_moves (aCons (dVar 1) (aCons (dBin dIx (dVar 0) (dVar 2)) (aNil)))) (dCallF 2 S_joined_moves (aCons (dBin dIx (dVar 0) (dVar 3)) (aCons (dVar 1) (aNil)))))) (sRet (dC (.bool false))) (sNx)))) (sRet (dC (.bool true))))
abbrev N__breaks_shadow : List Str := ["rows", "word", "letters", "x", "y", "z"]
abbrev P__breaks_shadow : List Str := ["rows", "word", "letters"]
def g__breaks_shadow : DS := sSeq (sAsg (dVar 2) (gTp 3 (gsCons (gNm 3) (gsCons (gNm 4) (gsCons (gNm 5) (gsNil)))))) (sSeq (sIf (dTst (dBin dEq (dVar 1) (dC (.str "row")))) (sRet (dAnd (dBin dLt (dVar 4) (dVar 5)) (dBin dEq (dBin dIx (dBin dIx (dVar 0) (dVar 3)) (dVar 4)) (dBin dIx (dBin dIx (dVar 0) (dVar 3)) (dVar 5))))) (sNx)) (sRet (dBin dNe (dBin dIx (dBin dIx (dVar 0) (dVar 3)) (dBin dIx (dBin dIx (dVar 0) (dVar 4)) (dVar 5))) (dBin dIx (dBin dIx (dVar 0) (dBin dIx (dBin dIx (dVar 0) (dVar 3)) (dVar 4))) (dBin dIx (dBin dIx (dVar 0) (dVar 3)) (dVar 5))))))
abbrev N__law_left_of : List Str := ["_law_rows", "_law_row", "_law_pair"]
abbrev P__law_left_of : List Str := ["_law_rows"]
def g__law_left_of : DS := sRet (dOfL (lLc (iSq (dVar 0)) (gNm 1) (dYes) (dCall dTupOf (aCons (dOfL (lLc (iSq (dVar 1)) (gNm 2) (dYes) (dBin dIx (dVar 2) (dC (.int 0))) [2])) (aNil))) [1]))
abbrev N__law_right_of : List Str := ["_law_rows", "_law_y", "_law_x"]
abbrev P__law_right_of : List Str := ["_law_rows"]
def g__law_right_of : DS := sRet (dOfL (lLc (iR1 (dCall dLen (aCons (dVar 0) (aNil)))) (gNm 1) (dYes) (dCall dTupOf (aCons (dOfL (lLc (iR1 (dCall dLen (aCons (dVar 0) (aNil)))) (gNm 2) (dYes) (dBin dIx (dBin dIx (dBin dIx (dVar 0) (dVar 2)) (dVar 1)) (dC (.int 1))) [2])) (aNil))) [1]))
abbrev N__law_shadow_rows : List Str := ["_law_rows", "_law_left", "_law_right", "_law_found", "_law_x", "_law_row", "_law_y", "_law_z"]
abbrev P__law_shadow_rows : List Str := ["_law_rows"]
def g__law_shadow_rows : DS := sSeq (sPar3 1 2 3 (dCallF 1 S__law_left_of (aCons (dVar 0) (aNil))) (dCallF 1 S__law_right_of (aCons (dVar 0) (aNil))) (xOw (lLst (aNil)))) (sSeq (sFor (iR1 (dCall dLen (aCons (dVar 0) (aNil)))) (gNm 4) (sSeq (sSet 5 (xOw (lLst (aNil)))) (sSeq (sFor (iR1 (dCall dLen (aCons (dVar 0) (aNil)))) (gNm 6) (sSeq (sSet 7 (xIm (dBin dIx (dCallF 1 S__law_undone (aCons (dBin dIx (dVar 1) (dVar 6)) (aNil))) (dVar 4)))) (sEx (dApp 5 (dBin dIx (dBin dIx (dVar 1) (dVar 4)) (dBin dIx (dBin dIx (dVar 2) (dVar 7)) (dVar 6))))))) (sEx (dApp 3 (dTupO 5)))))) (sRet (dTupO 3)))
abbrev N__law_is_shadow : List Str := ["_law_rows", "_law_size", "_law_row", "_law_y", "_law_z"]
abbrev P__law_is_shadow : List Str := ["_law_rows"]
def g__law_is_shadow : DS := sSeq (sSet 1 (xIm (dCall dLen (aCons (dVar 0) (aNil))))) (sSeq (sIf (dTst (dBin dNe (dOfL (lLc (iSq (dVar 0)) (gNm 2) (dTst (dBin dLt (dLenSet2 (dVar 2)) (dVar 1))) (dVar 2) [2])) (dOfL (lLst (aNil))))) (sRet (dC (.bool false))) (sNx)) (sSeq (sFor (iSq (dVar 0)) (gNm 2) (sFor (iR1 (dVar 1)) (gNm 3) (sFor (iR1 (dVar 1)) (gNm 4) (sIf (dTst (dBin dNe (dBin dIx (dVar 2) (dBin dIx (dBin dIx (dVar 0) (dVar 3)) (dVar 4))) (dBin dIx (dBin dIx (dVar 0) (dBin dIx (dVar 2) (dVar 3))) (dBin dIx (dVar 2) (dVar 4))))) (sRet (dC (.bool false))) (sNx))))) (sRet (dC (.bool true)))))
abbrev N__law_shows : List Str := ["_law_rows", "_law_value", "_law_size", "_law_x", "_law_y", "_law_z", "_law_row", "_law_one"]
abbrev P__law_shows : List Str := ["_law_rows", "_law_value"]
def g__law_shows : DS := sSeq (sSet 2 (xIm (dCall dLen (aCons (dVar 0) (aNil))))) (sSeq (sIf (dTOr (dTNot (dTst (dIsi "tuple" (dVar 1)))) (dTOr (dTst (dBin dEq (dVar 1) (dTup (aNil)))) (dTNot (dTst (dIsi "str" (dBin dIx (dVar 1) (dC (.int 0)))))))) (sRet (dC (.bool false))) (sNx)) (sSeq (sIf (dTst (dBin dEq (dVar 1) (dTup (aCons (dC (.str "shadow")) (aNil))))) (sRet (dCallF 1 S__law_is_shadow (aCons (dVar 0) (aNil)))) (sNx)) (sSeq (sIf (dTOr (dTst (dBin dNe (dCall dLen (aCons (dVar 1) (aNil))) (dC (.int 4)))) (dTst (dBin dNe (dOfL (lLc (iSq (dSl (dVar 1) (oSome (dC (.int 1))) (oNone))) (gNm 7) (dTNot (dTst (dIsi "int" (dVar 7)))) (dVar 7) [7])) (dOfL (lLst (aNil)))))) (sRet (dC (.bool false))) (sNx)) (sSeq (sIf (dTst (dBin dNe (dOfL (lLc (iSq (dSl (dVar 1) (oSome (dC (.int 1))) (oNone))) (gNm 7) (dTst (dIsi "bool" (dVar 7))) (dVar 7) [7])) (dOfL (lLst (aNil))))) (sRet (dC (.bool false))) (sNx)) (sSeq (sAsg (dSl (dVar 1) (oSome (dC (.int 1))) (oNone)) (gTp 3 (gsCons (gNm 3) (gsCons (gNm 4) (gsCons (gNm 5) (gsNil)))))) (sSeq (sIf (dTst (dBin dNe (dOfL (lLc (iSq (dTup (aCons (dVar 3) (aCons (dVar 4) (aCons (dVar 5) (aNil)))))) (gNm 7) (dTNot (dTst (dChain dLe dLt (dC (.int 0)) (dVar 7) (dVar 2)))) (dVar 7) [7])) (dOfL (lLst (aNil))))) (sRet (dC (.bool false))) (sNx)) (sSeq (sSet 6 (xIm (dBin dIx (dVar 0) (dVar 3)))) (sSeq (sIf (dTst (dBin dEq (dBin dIx (dVar 1) (dC (.int 0))) (dC (.str "row")))) (sRet (dAnd (dBin dLt (dVar 4) (dVar 5)) (dBin dEq (dBin dIx (dVar 6) (dVar 4)) (dBin dIx (dVar 6) (dVar 5))))) (sNx)) (sRet (dAnd (dBin dEq (dBin dIx (dVar 1) (dC (.int 0))) (dC (.str "three"))) (dBin dNe (dBin dIx (dVar 6) (dBin dIx (dBin dIx (dVar 0) (dVar 4)) (dVar 5))) (dBin dIx (dBin dIx (dVar 0) (dBin dIx (dVar 6) (dVar 4))) (dBin dIx (dVar 6) (dVar 5))))))))))))))
abbrev N__law_first_paper : List Str := ["_law_rows", "_law_letters", "_law_word", "_law_x", "_law_y", "_law_z"]
abbrev P__law_first_paper : List Str := ["_law_rows"]
def g__law_first_paper : DS := sSeq (sSet 1 (xIm (dOfL (lRg (rg1 (dCall dLen (aCons (dVar 0) (aNil)))))))) (sSeq (sFor (iSq (dTup (aCons (dC (.str "row")) (aCons (dC (.str "three")) (aNil))))) (gNm 2) (sFor (iSq (dVar 1)) (gNm 3) (sFor (iSq (dVar 1)) (gNm 4) (sFor (iSq (dVar 1)) (gNm 5) (sIf (dTst (dCallF 2 S__law_shows (aCons (dVar 0) (aCons (dTup (aCons (dVar 2) (aCons (dVar 3) (aCons (dVar 4) (aCons (dVar 5) (aNil)))))) (aNil))))) (sRet (dTup (aCons (dVar 2) (aCons (dVar 3) (aCons (dVar 4) (aCons (dVar 5) (aNil))))))) (sNx)))))) (sRet (dTup (aCons (dC (.str "shadow")) (aNil)))))
abbrev N__law_values : List Str := ["_law_dice_here", "_law_rows", "_law_told", "_law_size", "_law_found", "_law_turn", "_law_x", "_law_y", "_law_z"]
abbrev P__law_values : List Str := ["_law_dice_here", "_law_rows", "_law_told"]
def g__law_values : DS := sSeq (sPar 3 4 (xIm (dCall dLen (aCons (dVar 1) (aNil)))) (xIm (dOfL (lLst (aCons (dVar 2) (aCons (dOfL (lOf (dVar 2))) (aCons (dBin dAdd (dVar 2) (dTup (aCons (dC (.int 0)) (aNil)))) (aCons (dSl (dVar 2) (oSome (dC (.int 1))) (oNone)) (aCons (dC .none) (aCons (dTup (aNil)) (aCons (dC (.str "shadow")) (aCons (dTup (aCons (dC (.str "shadow")) (aCons (dC (.int 0)) (aNil)))) (aCons (dTup (aCons (dC (.str "shadow")) (aNil))) (aCons (dTup (aCons (dTup (aNil)) (aCons (dC (.int 0)) (aCons (dC (.int 0)) (aCons (dC (.int 0)) (aNil)))))) (aNil))))))))))))))) (sSeq (sFor (iR1 (dC (.int 4))) (gNm 5) (sSeq (sPar3 6 7 8 (dCallM 0 2 S__law_roll (aCons (dVar 3) (aNil))) (dCallM 0 2 S__law_roll (aCons (dVar 3) (aNil))) (xIm (dCallM 0 2 S__law_roll (aCons (dVar 3) (aNil))))) (sSeq (sSet 4 (xIm (dBin dAdd (dVar 4) (dOfL (lLst (aCons (dTup (aCons (dC (.str "row")) (aCons (dVar 6) (aCons (dVar 7) (aCons (dVar 8) (aNil)))))) (aCons (dTup (aCons (dC (.str "three")) (aCons (dVar 6) (aCons (dVar 7) (aCons (dVar 8) (aNil)))))) (aCons (dTup (aCons (dC (.str "left")) (aCons (dVar 6) (aCons (dVar 7) (aCons (dVar 8) (aNil)))))) (aCons (dTup (aCons (dC (.str "three")) (aCons (dVar 6) (aCons (dVar 7) (aNil))))) (aCons (dTup (aCons (dC (.str "row")) (aCons (dVar 6) (aCons (dVar 7) (aCons (dVar 3) (aNil)))))) (aNil))))))))))) (sSeq (sSet 4 (xIm (dBin dAdd (dVar 4) (dOfL (lLst (aCons (dTup (aCons (dC (.str "three")) (aCons (dVar 6) (aCons (dVar 7) (aCons (dNeg (dC (.int 1))) (aNil)))))) (aCons (dTup (aCons (dC (.str "row")) (aCons (dVar 6) (aCons (dBin dEq (dVar 7) (dC (.int 1))) (aCons (dVar 8) (aNil)))))) (aCons (dTup (aCons (dC (.str "three")) (aCons (dBin dEq (dVar 6) (dC (.int 1))) (aCons (dVar 7) (aCons (dVar 8) (aNil)))))) (aCons (dTup (aCons (dC (.str "three")) (aCons (dVar 6) (aCons (dVar 7) (aCons (dBin dPow (dC (.int 10)) (dC (.int 60))) (aNil)))))) (aNil)))))))))) (sSet 4 (xIm (dBin dAdd (dVar 4) (dOfL (lLst (aCons (dOfL (lLst (aCons (dC (.str "three")) (aCons (dVar 6) (aCons (dVar 7) (aCons (dVar 8) (aNil))))))) (aCons (dTup (aCons (dC (.str "row")) (aCons (dVar 6) (aCons (dVar 8) (aCons (dVar 7) (aNil)))))) (aCons (dTup (aCons (dC (.str "three")) (aCons (dVar 6) (aCons (dTup (aCons (dVar 7) (aNil))) (aCons (dVar 8) (aNil)))))) (aCons (dTup (aCons (dC (.str "three")) (aCons (dCall dStrI (aCons (dVar 6) (aNil))) (aCons (dVar 7) (aCons (dVar 8) (aNil)))))) (aNil)))))))))))))) (sRet (dVar 4)))
abbrev N_is_shadow_paper : List Str := ["rows", "value", "word"]
abbrev P_is_shadow_paper : List Str := ["rows", "value"]
def g_is_shadow_paper : DS := sSeq (sEx (dCallF 1 S__check_rows (aCons (dVar 0) (aNil)))) (sSeq (sFor (iSq (dTup (aCons (dC (.str "row")) (aCons (dC (.str "three")) (aNil))))) (gNm 2) (sIf (dTst (dCallF 4 S_is_told (aCons (dVar 1) (aCons (dVar 2) (aCons (dC (.int 3)) (aCons (dCall dLen (aCons (dVar 0) (aNil))) (aNil))))))) (sRet (dCallF 3 S__breaks_shadow (aCons (dVar 0) (aCons (dVar 2) (aCons (dSl (dVar 1) (oSome (dC (.int 1))) (oNone)) (aNil)))))) (sNx))) (sRet (dAnd (dCallF 2 S_is_same (aCons (dVar 1) (aCons (dTup (aCons (dC (.str "shadow")) (aNil))) (aNil)))) (dCallF 1 S__is_shadow (aCons (dVar 0) (aNil))))))
abbrev N__broken_paper : List Str := ["rows", "letters", "word", "threes", "x", "y", "z"]
abbrev P__broken_paper : List Str := ["rows"]
def g__broken_paper : DS := sSeq (sSet 1 (xRng (dCall dLen (aCons (dVar 0) (aNil))))) (sFor (iSq (dTup (aCons (dC (.str "row")) (aCons (dC (.str "three")) (aNil))))) (gNm 2) (sFor (iSq (dThr)) (gNm 3) (sIf (dTst (dCallF 3 S__breaks_shadow (aCons (dVar 0) (aCons (dVar 2) (aCons (dVar 3) (aNil)))))) (sRet (dBin dAdd (dTup (aCons (dVar 2) (aNil))) (dVar 3))) (sNx))))
abbrev N__law_fair_rows : List Str := ["_law_dice_here", "_law_least", "_law_most", "_law_way", "_law_size", "_law_move", "_law_one", "_law_other", "_law_turn", "_law_rows", "_law_moves", "_law_x", "_law_goals", "_law_y", "_law_goal"]
abbrev P__law_fair_rows : List Str := ["_law_dice_here", "_law_least", "_law_most"]
def g__law_fair_rows : DS := sSeq (sPar 3 4 (xIm (dCallM 0 2 S__law_roll (aCons (dC (.int 6)) (aNil)))) (xIm (dBin dAdd (dVar 1) (dCallM 0 2 S__law_roll (aCons (dBin dAdd (dBin dSub (dVar 2) (dVar 1)) (dC (.int 1))) (aNil)))))) (sSeq (sIf (dTst (dBin dEq (dVar 3) (dC (.int 0)))) (sSeq (sSet 5 (xIm (dCallM 0 2 S__law_drawn_move (aCons (dVar 4) (aNil))))) (sSeq (sPar 6 7 (xIm (dCallF 2 S__law_power (aCons (dVar 5) (aCons (dCallM 0 2 S__law_roll (aCons (dC (.int 5)) (aNil))) (aNil))))) (xIm (dCallF 2 S__law_power (aCons (dVar 5) (aCons (dCallM 0 2 S__law_roll (aCons (dC (.int 5)) (aNil))) (aNil)))))) (sRet (dCall dTupOf (aCons (dOfL (lLc (iR1 (dVar 4)) (gNm 11) (dYes) (dCall dTupOf (aCons (dOfL (lLc (iR1 (dVar 4)) (gNm 13) (dYes) (dTup (aCons (dBin dIx (dVar 6) (dVar 13)) (aCons (dBin dIx (dVar 7) (dVar 11)) (aNil)))) [13])) (aNil))) [11])) (aNil)))))) (sNx)) (sSeq (sIf (dTst (dBin dEq (dVar 3) (dC (.int 1)))) (sSeq (sSet 8 (xIm (dCallM 0 2 S__law_pick (aCons (dOfL (lLst (aCons (dNeg (dC (.int 1))) (aCons (dNeg (dC (.int 1))) (aCons (dC (.int 2)) (aCons (dC (.int 1)) (aNil))))))) (aNil))))) (sSeq (sSet 8 (xIm (dIfE (dTOr (dTst (dBin dLt (dVar 8) (dC (.int 2)))) (dTst (dBin dEq (dBin dMod (dVar 4) (dC (.int 2))) (dC (.int 1))))) (dVar 8) (dNeg (dC (.int 1)))))) (sSeq (sSet 9 (xOw (lLc (iR1 (dVar 4)) (gNm 11) (dYes) (dCall dTupOf (aCons (dOfL (lLc (iR1 (dVar 4)) (gNm 13) (dYes) (dTup (aCons (dBin dMod (dCall dInt (aCons (dBin dSub (dBin dAdd (dVar 11) (dBin dMulA (dVar 8) (dVar 13))) (dBin dMulA (dVar 8) (dVar 11))) (aNil))) (dVar 4)) (aCons (dVar 11) (aNil)))) [13])) (aNil))) [11]))) (sRet (dCallF 2 S__law_renamed_rows (aCons (dTupO 9) (aCons (dCallM 0 2 S__law_drawn_move (aCons (dVar 4) (aNil))) (aNil)))))))) (sNx)) (sSeq (sIf (dTAnd (dTst (dBin dEq (dVar 3) (dC (.int 2)))) (dTst (dBin dGt (dVar 2) (dC (.int 5))))) (sNever) (sNx)) (sSeq (sIf (dTAnd (dTst (dBin dEq (dVar 3) (dC (.int 3)))) (dTst (dBin dGt (dVar 4) (dC (.int 1))))) (sSeq (sSet 9 (xOw (lLc (iR1 (dVar 4)) (gNm 11) (dYes) (dCall dTupOf (aCons (dOfL (lLc (iR1 (dVar 4)) (gNm 13) (dYes) (dTup (aCons (dVar 13) (aCons (dBin dMod (dCall dInt (aCons (dBin dSub (dBin dMulA (dC (.int 2)) (dVar 13)) (dVar 11)) (aNil))) (dVar 4)) (aNil)))) [13])) (aNil))) [11]))) (sRet (dCallF 2 S__law_renamed_rows (aCons (dTupO 9) (aCons (dCallM 0 2 S__law_drawn_move (aCons (dVar 4) (aNil))) (aNil)))))) (sNx)) (sRet (dCallF 1 S__law_rows_of_dots (aCons (dCallM 0 3 S__law_quiet_dots (aCons (dVar 1) (aCons (dVar 2) (aNil)))) (aNil))))))))
abbrev N__law_near_rows : List Str := ["_law_dice_here", "_law_rows", "_law_way", "_law_size", "_law_x", "_law_y", "_law_z", "_law_row"]
abbrev P__law_near_rows : List Str := ["_law_dice_here"]
def g__law_near_rows : DS := fun E ρ => (∃ p, Fr p ρ) ∧ (∀ (i : Nat) (d : D), ρ[i]? = some (some (.im d)) → NL d) ∧ (sSeq (sB (sSet 1 (xIm (dOfL (lLc (iSq (dCallF 1 S__law_shadow_rows (aCons (dCallM 0 3 S__law_fair_rows (aCons (dC (.int 1)) (aCons (dC (.int 5)) (aNil)))) (aNil)))) (gNm 7) (dYes) (dOfL (lOf (dVar 7))) [7]))))) (sSeq (sB (sPar 2 3 (xIm (dCallM 0 2 S__law_roll (aCons (dC (.int 4)) (aNil)))) (xIm (dCall dLen (aCons (dVar 1) (aNil)))))) (sSeq (sB (sPar3 4 5 6 (dCallM 0 2 S__law_roll (aCons (dVar 3) (aNil))) (dCallM 0 2 S__law_roll (aCons (dVar 3) (aNil))) (xIm (dCallM 0 2 S__law_roll (aCons (dVar 3) (aNil)))))) (sSeq (sIfB (dTst (dBin dEq (dVar 2) (dC (.int 1)))) (sAsgB (dVar 6) (gSubBE (dBin dIx (dVar 1) (dVar 4)) (dVar 5))) (sNx)) (sSeq (sIfB (dTst (dBin dEq (dVar 2) (dC (.int 2)))) (sAsgB (dTup (aCons (dBin dIx (dBin dIx (dVar 1) (dVar 4)) (dVar 6)) (aCons (dBin dIx (dBin dIx (dVar 1) (dVar 4)) (dVar 5)) (aNil)))) (gTpB NL 2 (gsCons (gSubBE (dBin dIx (dVar 1) (dVar 4)) (dVar 5)) (gsCons (gSubBE (dBin dIx (dVar 1) (dVar 4)) (dVar 6)) (gsNil))))) (sNx)) (sSeq (sB (sIf (dTst (dBin dEq (dVar 2) (dC (.int 3)))) (sSet 1 (xIm (dOfL (lLc (iSq (dVar 1)) (gNm 7) (dYes) (dCallM 0 2 S__law_drawn_move (aCons (dVar 3) (aNil))) [7])))) (sNx))) (sB (sRet (dCall dTupOf (aCons (dOfL (lLc (iSq (dVar 1)) (gNm 7) (dYes) (dCall dTupOf (aCons (dVar 7) (aNil))) [7])) (aNil))))))))))) E ρ
abbrev N_shadow_paper : List Str := ["rows"]
abbrev P_shadow_paper : List Str := ["rows"]
def g_shadow_paper : DS := sSeq (sEx (dCallF 1 S__check_rows (aCons (dVar 0) (aNil)))) (sRet (dIfE (dTst (dCallF 1 S__is_shadow (aCons (dVar 0) (aNil)))) (dTup (aCons (dC (.str "shadow")) (aNil))) (dCallF 1 S__broken_paper (aCons (dVar 0) (aNil)))))
abbrev N_law : List Str := ["_law_script", "_law_spot", "_law_dice_here", "_law_turn", "_law_rows", "_law_told", "_law_value"]
abbrev P_law : List Str := ["_law_script"]
def g_law : DS := sSeq (sFor (iR1 (dCall dMax2 (aCons (dC (.int 1)) (aCons (dCall dMin2 (aCons (dC (.int 4)) (aCons (dCall dLen (aCons (dVar 0) (aNil))) (aNil)))) (aNil))))) (gNm 1) (sSeq (sSet 2 (xOw (lCall 2 S__law_dice (aCons (dVar 0) (aCons (dVar 1) (aNil)))))) (sFor (iR1 (dC (.int 3))) (gNm 3) (sSeq (sSet 4 (xIm (dCallM 2 1 S__law_near_rows (aNil)))) (sSeq (sSet 5 (xIm (dCallF 1 S_shadow_paper (aCons (dVar 4) (aNil))))) (sSeq (sIf (dTst (dBin dNe (dVar 5) (dCallF 1 S__law_first_paper (aCons (dVar 4) (aNil))))) (sRet (dC (.bool false))) (sNx)) (sFor (iSq (dCallM 2 3 S__law_values (aCons (dVar 4) (aCons (dVar 5) (aNil))))) (gNm 6) (sIf (dTst (dBin dNe (dCallF 2 S_is_shadow_paper (aCons (dVar 4) (aCons (dVar 6) (aNil)))) (dCallF 2 S__law_shows (aCons (dVar 4) (aCons (dVar 6) (aNil)))))) (sRet (dC (.bool false))) (sNx))))))))) (sSeq (sSet 5 (xIm (dOfL (lLst (aCons (dCallF 1 S_shadow_paper (aCons (dTup (aCons (dTup (aCons (dC (.int 0)) (aCons (dC (.int 1)) (aNil)))) (aCons (dTup (aCons (dC (.int 1)) (aCons (dC (.int 0)) (aNil)))) (aNil)))) (aNil))) (aCons (dCallF 1 S_shadow_paper (aCons (dTup (aCons (dTup (aCons (dC (.int 0)) (aCons (dC (.int 0)) (aNil)))) (aCons (dTup (aCons (dC (.int 0)) (aCons (dC (.int 1)) (aNil)))) (aNil)))) (aNil))) (aCons (dCallF 1 S_shadow_paper (aCons (dTup (aNil)) (aNil))) (aCons (dCallF 2 S_is_shadow_paper (aCons (dTup (aNil)) (aCons (dTup (aCons (dC (.str "shadow")) (aNil))) (aNil)))) (aNil))))))))) (sRet (dBin dEq (dVar 5) (dOfL (lLst (aCons (dTup (aCons (dC (.str "three")) (aCons (dC (.int 1)) (aCons (dC (.int 0)) (aCons (dC (.int 0)) (aNil)))))) (aCons (dTup (aCons (dC (.str "row")) (aCons (dC (.int 0)) (aCons (dC (.int 0)) (aCons (dC (.int 1)) (aNil)))))) (aCons (dTup (aCons (dC (.str "shadow")) (aNil))) (aCons (dC (.bool true)) (aNil))))))))))
end Dn.K69
set_option Elab.async false
set_option linter.all false
set_option maxRecDepth 100000
set_option autoImplicit false
set_option maxHeartbeats 4000000
namespace Dn.K69
open PySem L2 Evl PySem.Spec PyProof.Rows
def top (i : Nat) : Stmt := PySem.Challenge.pw_truenames_k69_papers_on_shadows.main.body.getD i (.Pass ⟨0, 0, 0, 0⟩)
structure Bl (mg : Str → Option Value) : Prop where
  len : mg "len" = none
  range : mg "range" = none
  tuple : mg "tuple" = none
  list : mg "list" = none
  isinstance : mg "isinstance" = none
  int : mg "int" = none
  bool : mg "bool" = none
  str : mg "str" = none
  abs : mg "abs" = none
  max : mg "max" = none
  min : mg "min" = none
  all : mg "all" = none
  any : mg "any" = none
  sum : mg "sum" = none
  sorted : mg "sorted" = none
  enumerate : mg "enumerate" = none
  repr : mg "repr" = none
  set : mg "set" = none
  dict : mg "dict" = none
  zip : mg "zip" = none
abbrev st_is_integer : Stmt := top 5
abbrev st_is_row : Stmt := top 6
abbrev st_is_square : Stmt := top 7
abbrev st_is_same : Stmt := top 8
abbrev st_is_told : Stmt := top 9
abbrev st_is_move : Stmt := top 12
abbrev st_is_move_of : Stmt := top 13
abbrev st_joined_moves : Stmt := top 14
abbrev st_shadow_paper : Stmt := top 17
abbrev st_is_shadow_paper : Stmt := top 18
abbrev st__check_rows : Stmt := top 19
abbrev st__is_shadow : Stmt := top 20
abbrev st__broken_paper : Stmt := top 21
abbrev st__breaks_shadow : Stmt := top 22
abbrev st__law_dice : Stmt := top 24
abbrev st__law_roll : Stmt := top 25
abbrev st__law_pick : Stmt := top 26
abbrev st__law_mixed : Stmt := top 27
abbrev st__law_orders : Stmt := top 28
abbrev st__law_joined : Stmt := top 29
abbrev st__law_undone : Stmt := top 30
abbrev st__law_drawn_move : Stmt := top 31
abbrev st__law_renamed_dots : Stmt := top 32
abbrev st__law_dots_likenesses : Stmt := top 33
abbrev st__law_keeps_dots : Stmt := top 34
abbrev st__law_union_dots : Stmt := top 35
abbrev st__law_places_of : Stmt := top 36
abbrev st__law_product_dots : Stmt := top 37
abbrev st__law_small_dots : Stmt := top 38
abbrev st__law_quiet_dots : Stmt := top 39
abbrev st__law_rows_of_dots : Stmt := top 40
abbrev st__law_left_of : Stmt := top 41
abbrev st__law_right_of : Stmt := top 42
abbrev st__law_renamed_rows : Stmt := top 43
abbrev st__law_fair_rows : Stmt := top 44
abbrev st__law_power : Stmt := top 45
abbrev st__law_shadow_rows : Stmt := top 46
abbrev st__law_is_shadow : Stmt := top 47
abbrev st__law_shows : Stmt := top 48
abbrev st__law_first_paper : Stmt := top 49
abbrev st__law_near_rows : Stmt := top 50
abbrev st__law_values : Stmt := top 51
abbrev st_law : Stmt := top 52
section
variable {P : Program} {w : World} {K : PySem.W.Frag} {mg : Str → Option Value} {base : Heap}
theorem sc_is_integer : FnScope N_is_integer P_is_integer (defScope st_is_integer) := ⟨rfl, rfl, rfl, by decide +kernel, rfl, by decide +kernel, by decide +kernel⟩
theorem bs_is_integer : BindsAs "is_integer" st_is_integer P_is_integer := fun _ _ _ _ _ _ us hl => match us, hl with | [_], _ => rfl
theorem j_is_integer (B : Bl mg) {t_TOO_LONG : Tok} (c_TOO_LONG : mg "TOO_LONG" = some (.int 1000000000000000000000000000000000000000000000000000000000000 t_TOO_LONG)) : BodyCx P w K mg base "is_integer" st_is_integer N_is_integer 0 fun X => JSs X (defBody st_is_integer) g_is_integer := fun f cdv A outer s H E hr => js_cons (js_if ((jw_or (jt_not (jt_val (je_isi (tn := "int") B.isinstance B.int (by decide +kernel) (je_v 0)))) (jw_or1 (jt_val (je_isi (tn := "bool") B.isinstance B.bool (by decide +kernel) (je_v 0))))).jt) (js_one (js_ret (je_bl))) (js_nil)) (js_one (js_ret (je_chain opd_lt opd_lt (je_neg (je_globI c_TOO_LONG (by rfl))) (je_v 0) (je_globI c_TOO_LONG (by rfl)))))
theorem sc_is_row : FnScope N_is_row P_is_row (defScope st_is_row) := ⟨rfl, rfl, rfl, by decide +kernel, rfl, by decide +kernel, by decide +kernel⟩
theorem bs_is_row : BindsAs "is_row" st_is_row P_is_row := fun _ _ _ _ _ _ us hl => match us, hl with | [_, _, _], _ => rfl
theorem j_is_row (B : Bl mg) : BodyCx P w K mg base "is_row" st_is_row N_is_row 0 fun X => JSs X (defBody st_is_row) g_is_row := fun f cdv A outer s H E hr => js_cons (js_if ((jw_or (jt_not (jt_val (je_isi (tn := "tuple") B.isinstance B.tuple (by decide +kernel) (je_v 0)))) (jw_or1 (jt_cmp (opd_ne hr.units) (je_callB calld_len B.len (by decide +kernel) (ja_cons (je_v 0) (ja_nil))) (je_v 1) (nomark _)))).jt) (js_one (js_ret (je_bl))) (js_nil)) (js_cons (js_for (vs := [3]) rfl (ji_sq (je_v 0)) (jg_n 3 sc_is_row.nd) (js_one (js_if ((jw_or (jt_not (jt_val (je_isi (tn := "int") B.isinstance B.int (by decide +kernel) (je_v 3)))) (jw_or (jt_val (je_isi (tn := "bool") B.isinstance B.bool (by decide +kernel) (je_v 3))) (jw_or1 (jt_not (jt_chain opd_le opd_lt (je_int) (je_v 3) (je_v 2)))))).jt) (js_one (js_ret (je_bl))) (js_nil)))) (js_one (js_ret (je_bl))))
theorem sc_is_square : FnScope N_is_square P_is_square (defScope st_is_square) := ⟨rfl, rfl, rfl, by decide +kernel, rfl, by decide +kernel, by decide +kernel⟩
theorem bs_is_square : BindsAs "is_square" st_is_square P_is_square := fun _ _ _ _ _ _ us hl => match us, hl with | [_, _, _], _ => rfl
theorem j_is_square (B : Bl mg) (O_is_row : Ok P w K mg base "is_row" P_is_row 1 (spD K 3 S_is_row)) : BodyCx P w K mg base "is_square" st_is_square N_is_square 1 fun X => JSs X (defBody st_is_square) g_is_square := fun f cdv A outer s H E hr => js_cons (js_if ((jw_or (jt_not (jt_val (je_isi (tn := "tuple") B.isinstance B.tuple (by decide +kernel) (je_v 0)))) (jw_or1 (jt_not (jt_chain opd_le opd_le (je_v 1) (je_callB calld_len B.len (by decide +kernel) (ja_cons (je_v 0) (ja_nil))) (je_v 2))))).jt) (js_one (js_ret (je_bl))) (js_nil)) (js_one (js_ret (je_callB (calld_all rfl) B.all (by decide +kernel) (ja_cons ((jl_lc (own := [("row", 3)]) rfl sc_is_square.nd (ji_sq (je_v 0)) (blkOk_by (by rfl)) (fun _ _ _ _ _ => jg_n 3 sc_is_square.nd) (fun _ _ _ _ _ => jts_nil) (fun _ _ _ _ _ => je_fn O_is_row (hr.mono (by decide)) (ja_cons (je_v 3) (ja_cons (je_callB calld_len B.len (by decide +kernel) (ja_cons (je_v 0) (ja_nil))) (ja_cons (je_callB calld_len B.len (by decide +kernel) (ja_cons (je_v 0) (ja_nil))) (ja_nil)))))).je) (ja_nil)))))
theorem sc_is_same : FnScope N_is_same P_is_same (defScope st_is_same) := ⟨rfl, rfl, rfl, by decide +kernel, rfl, by decide +kernel, by decide +kernel⟩
theorem bs_is_same : BindsAs "is_same" st_is_same P_is_same := fun _ _ _ _ _ _ us hl => match us, hl with | [_, _], _ => rfl
theorem j_is_same0 (B : Bl mg) (O_is_integer : Ok P w K mg base "is_integer" P_is_integer 1 (spD K 1 S_is_integer)) : BodyCx P w K mg base "is_same" st_is_same N_is_same 1 fun X => JSs X (defBody st_is_same) g_is_same0 := fun f cdv A outer s H E hr => js_cons (js_if (jt_val (je_isi (tn := "tuple") B.isinstance B.tuple (by decide +kernel) (je_v 1))) (js_cons (js_if ((jw_or (jt_not (jt_val (je_isi (tn := "tuple") B.isinstance B.tuple (by decide +kernel) (je_v 0)))) (jw_or1 (jt_cmp (opd_ne hr.units) (je_callB calld_len B.len (by decide +kernel) (ja_cons (je_v 0) (ja_nil))) (je_callB calld_len B.len (by decide +kernel) (ja_cons (je_v 1) (ja_nil))) (nomark _)))).jt) (js_one (js_ret (je_bl))) (js_nil)) (js_one (js_ret (je_callB (calld_all rfl) B.all (by decide +kernel) (ja_cons ((jl_lc (own := [("index", 2), ("part", 3)]) rfl sc_is_same.nd (ji_en B.enumerate (je_v 0)) (blkOk_by (by rfl)) (fun _ _ _ _ _ => jg_tup rfl (jgs_cons (jg_n 2 sc_is_same.nd) (jgs_cons (jg_n 3 sc_is_same.nd) (jgs_nil)))) (fun _ _ _ _ _ => jts_nil) (fun _ _ _ _ _ => je_never)).je) (ja_nil)))))) (js_nil)) (js_cons (js_if (jt_val (je_isi (tn := "str") B.isinstance B.str (by decide +kernel) (je_v 1))) (js_one (js_ret (je_and (je_isi (tn := "str") B.isinstance B.str (by decide +kernel) (je_v 0)) (je_one (je_cmp (opd_eq hr.units) (je_v 0) (je_v 1) (nomark _)))))) (js_nil)) (js_one (js_ret (je_and (je_fn O_is_integer (hr.mono (by decide)) (ja_cons (je_v 0) (ja_nil))) (je_one (je_cmp (opd_eq hr.units) (je_v 0) (je_v 1) (nomark _)))))))
theorem j_is_same (B : Bl mg) (O_is_integer : Ok P w K mg base "is_integer" P_is_integer 1 (spD K 1 S_is_integer)) (O_is_same0 : Ok P w K mg base "is_same" P_is_same 2 (spD K 2 S_is_same0)) : BodyCx P w K mg base "is_same" st_is_same N_is_same 2 fun X => JSs X (defBody st_is_same) g_is_same := fun f cdv A outer s H E hr => js_cons (js_if (jt_val (je_isi (tn := "tuple") B.isinstance B.tuple (by decide +kernel) (je_v 1))) (js_cons (js_if ((jw_or (jt_not (jt_val (je_isi (tn := "tuple") B.isinstance B.tuple (by decide +kernel) (je_v 0)))) (jw_or1 (jt_cmp (opd_ne hr.units) (je_callB calld_len B.len (by decide +kernel) (ja_cons (je_v 0) (ja_nil))) (je_callB calld_len B.len (by decide +kernel) (ja_cons (je_v 1) (ja_nil))) (nomark _)))).jt) (js_one (js_ret (je_bl))) (js_nil)) (js_one (js_ret (je_callB (calld_all rfl) B.all (by decide +kernel) (ja_cons ((jl_lc (own := [("index", 2), ("part", 3)]) rfl sc_is_same.nd (ji_en B.enumerate (je_v 0)) (blkOk_by (by rfl)) (fun _ _ _ _ _ => jg_tup rfl (jgs_cons (jg_n 2 sc_is_same.nd) (jgs_cons (jg_n 3 sc_is_same.nd) (jgs_nil)))) (fun _ _ _ _ _ => jts_nil) (fun _ _ _ _ _ => je_fn O_is_same0 (hr.mono (by decide)) (ja_cons (je_v 3) (ja_cons (je_ix (je_v 1) (je_v 2)) (ja_nil))))).je) (ja_nil)))))) (js_nil)) (js_cons (js_if (jt_val (je_isi (tn := "str") B.isinstance B.str (by decide +kernel) (je_v 1))) (js_one (js_ret (je_and (je_isi (tn := "str") B.isinstance B.str (by decide +kernel) (je_v 0)) (je_one (je_cmp (opd_eq hr.units) (je_v 0) (je_v 1) (nomark _)))))) (js_nil)) (js_one (js_ret (je_and (je_fn O_is_integer (hr.mono (by decide)) (ja_cons (je_v 0) (ja_nil))) (je_one (je_cmp (opd_eq hr.units) (je_v 0) (je_v 1) (nomark _)))))))
theorem sc_is_told : FnScope N_is_told P_is_told (defScope st_is_told) := ⟨rfl, rfl, rfl, by decide +kernel, rfl, by decide +kernel, by decide +kernel⟩
theorem bs_is_told : BindsAs "is_told" st_is_told P_is_told := fun _ _ _ _ _ _ us hl => match us, hl with | [_, _, _, _], _ => rfl
theorem j_is_told (B : Bl mg) (O_is_same : Ok P w K mg base "is_same" P_is_same 3 (spD K 2 S_is_same)) (O_is_row : Ok P w K mg base "is_row" P_is_row 1 (spD K 3 S_is_row)) : BodyCx P w K mg base "is_told" st_is_told N_is_told 3 fun X => JSs X (defBody st_is_told) g_is_told := fun f cdv A outer s H E hr => js_cons (js_if ((jw_or (jt_not (jt_val (je_isi (tn := "tuple") B.isinstance B.tuple (by decide +kernel) (je_v 0)))) (jw_or1 (jt_cmp (opd_ne hr.units) (je_callB calld_len B.len (by decide +kernel) (ja_cons (je_v 0) (ja_nil))) (je_bin opd_add (je_v 2) (je_int)) (nomark _)))).jt) (js_one (js_ret (je_bl))) (js_nil)) (js_one (js_ret (je_and (je_fn O_is_same (hr.mono (by decide)) (ja_cons (je_ix (je_v 0) (je_int)) (ja_cons (je_v 1) (ja_nil)))) (je_one (je_fn O_is_row (hr.mono (by decide)) (ja_cons (je_sl (je_v 0) (jo_some (je_int)) (jo_none)) (ja_cons (je_v 2) (ja_cons (je_v 3) (ja_nil)))))))))
theorem sc_is_move : FnScope N_is_move P_is_move (defScope st_is_move) := ⟨rfl, rfl, rfl, by decide +kernel, rfl, by decide +kernel, by decide +kernel⟩
theorem bs_is_move : BindsAs "is_move" st_is_move P_is_move := fun _ _ _ _ _ _ us hl => match us, hl with | [_], _ => rfl
theorem j_is_move (B : Bl mg) {t_MAX_MOVED : Tok} (c_MAX_MOVED : mg "MAX_MOVED" = some (.int 24 t_MAX_MOVED)) (O_is_row : Ok P w K mg base "is_row" P_is_row 1 (spD K 3 S_is_row)) : BodyCx P w K mg base "is_move" st_is_move N_is_move 1 fun X => JSs X (defBody st_is_move) g_is_move := fun f cdv A outer s H E hr => js_cons (js_if ((jw_or (jt_not (jt_val (je_isi (tn := "tuple") B.isinstance B.tuple (by decide +kernel) (je_v 0)))) (jw_or1 (jt_cmp opd_gt (je_callB calld_len B.len (by decide +kernel) (ja_cons (je_v 0) (ja_nil))) (je_globI c_MAX_MOVED (by rfl)) (nomark _)))).jt) (js_one (js_ret (je_bl))) (js_nil)) (js_one (js_ret (je_and (je_fn O_is_row (hr.mono (by decide)) (ja_cons (je_v 0) (ja_cons (je_callB calld_len B.len (by decide +kernel) (ja_cons (je_v 0) (ja_nil))) (ja_cons (je_callB calld_len B.len (by decide +kernel) (ja_cons (je_v 0) (ja_nil))) (ja_nil))))) (je_one (je_cmp (opd_eq hr.units) (je_lenSet rfl B.len B.set (je_v 0)) (je_callB calld_len B.len (by decide +kernel) (ja_cons (je_v 0) (ja_nil))) (nomark _))))))
theorem sc_is_move_of : FnScope N_is_move_of P_is_move_of (defScope st_is_move_of) := ⟨rfl, rfl, rfl, by decide +kernel, rfl, by decide +kernel, by decide +kernel⟩
theorem bs_is_move_of : BindsAs "is_move_of" st_is_move_of P_is_move_of := fun _ _ _ _ _ _ us hl => match us, hl with | [_, _], _ => rfl
theorem j_is_move_of (B : Bl mg) (O_is_move : Ok P w K mg base "is_move" P_is_move 2 (spD K 1 S_is_move)) : BodyCx P w K mg base "is_move_of" st_is_move_of N_is_move_of 2 fun X => JSs X (defBody st_is_move_of) g_is_move_of := fun f cdv A outer s H E hr => js_one (js_ret (je_and (je_fn O_is_move (hr.mono (by decide)) (ja_cons (je_v 0) (ja_nil))) (je_one (je_cmp (opd_eq hr.units) (je_callB calld_len B.len (by decide +kernel) (ja_cons (je_v 0) (ja_nil))) (je_v 1) (nomark _)))))
theorem sc_joined_moves : FnScope N_joined_moves P_joined_moves (defScope st_joined_moves) := ⟨rfl, rfl, rfl, by decide +kernel, rfl, by decide +kernel, by decide +kernel⟩
theorem bs_joined_moves : BindsAs "joined_moves" st_joined_moves P_joined_moves := fun _ _ _ _ _ _ us hl => match us, hl with | [_, _], _ => rfl
theorem j_joined_moves (B : Bl mg) : BodyCx P w K mg base "joined_moves" st_joined_moves N_joined_moves 0 fun X => JSs X (defBody st_joined_moves) g_joined_moves := fun f cdv A outer s H E hr => js_one (js_ret (je_callTy calld_tuple B.tuple (by decide +kernel) (ja_cons ((jl_lc (own := [("thing", 2)]) rfl sc_joined_moves.nd (ji_sq (je_v 1)) (blkOk_by (by rfl)) (fun _ _ _ _ _ => jg_n 2 sc_joined_moves.nd) (fun _ _ _ _ _ => jts_nil) (fun _ _ _ _ _ => je_ix (je_v 0) (je_v 2))).je) (ja_nil))))
theorem sc__check_rows : FnScope N__check_rows P__check_rows (defScope st__check_rows) := ⟨rfl, rfl, rfl, by decide +kernel, rfl, by decide +kernel, by decide +kernel⟩
theorem bs__check_rows : BindsAs "_check_rows" st__check_rows P__check_rows := fun _ _ _ _ _ _ us hl => match us, hl with | [_], _ => rfl
theorem j__check_rows {t_MAX_LETTERS : Tok} (c_MAX_LETTERS : mg "MAX_LETTERS" = some (.int 8 t_MAX_LETTERS)) (O_is_square : Ok P w K mg base "is_square" P_is_square 2 (spD K 3 S_is_square)) : BodyCx P w K mg base "_check_rows" st__check_rows N__check_rows 2 fun X => JSs X (defBody st__check_rows) g__check_rows := fun f cdv A outer s H E hr => js_one (js_if (jt_not (jt_val (je_fn O_is_square (hr.mono (by decide)) (ja_cons (je_v 0) (ja_cons (je_int) (ja_cons (je_globI c_MAX_LETTERS (by rfl)) (ja_nil))))))) (js_one (js_never)) (js_nil))
theorem sc__is_shadow : FnScope N__is_shadow P__is_shadow (defScope st__is_shadow) := ⟨rfl, rfl, rfl, by decide +kernel, rfl, by decide +kernel, by decide +kernel⟩
theorem bs__is_shadow : BindsAs "_is_shadow" st__is_shadow P__is_shadow := fun _ _ _ _ _ _ us hl => match us, hl with | [_], _ => rfl
theorem j__is_shadow (B : Bl mg) (O_is_move_of : Ok P w K mg base "is_move_of" P_is_move_of 3 (spD K 2 S_is_move_of)) (O_joined_moves : Ok P w K mg base "joined_moves" P_joined_moves 1 (spD K 2 S_joined_moves)) : BodyCx P w K mg base "_is_shadow" st__is_shadow N__is_shadow 3 fun X => JSs X (defBody st__is_shadow) g__is_shadow := fun f cdv A outer s H E hr => js_cons (js_if (jt_not (jt_val (je_callB (calld_all rfl) B.all (by decide +kernel) (ja_cons ((jl_lc (own := [("row", 1)]) rfl sc__is_shadow.nd (ji_sq (je_v 0)) (blkOk_by (by rfl)) (fun _ _ _ _ _ => jg_n 1 sc__is_shadow.nd) (fun _ _ _ _ _ => jts_nil) (fun _ _ _ _ _ => je_fn O_is_move_of (hr.mono (by decide)) (ja_cons (je_v 1) (ja_cons (je_callB calld_len B.len (by decide +kernel) (ja_cons (je_v 0) (ja_nil))) (ja_nil))))).je) (ja_nil))))) (js_one (js_ret (je_bl))) (js_nil)) (js_cons (js_for (vs := [1]) rfl (ji_sq (je_v 0)) (jg_n 1 sc__is_shadow.nd) (js_one (js_for (vs := [2, 3]) rfl (ji_en B.enumerate (je_v 1)) (jg_tup rfl (jgs_cons (jg_n 2 sc__is_shadow.nd) (jgs_cons (jg_n 3 sc__is_shadow.nd) (jgs_nil)))) (js_one (js_if (jt_cmp (opd_ne hr.units) (je_fn O_joined_moves (hr.mono (by decide)) (ja_cons (je_v 1) (ja_cons (je_ix (je_v 0) (je_v 2)) (ja_nil)))) (je_fn O_joined_moves (hr.mono (by decide)) (ja_cons (je_ix (je_v 0) (je_v 3)) (ja_cons (je_v 1) (ja_nil)))) (nomark _)) (js_one (js_ret (je_bl))) (js_nil)))))) (js_one (js_ret (je_bl))))
theorem sc__breaks_shadow : FnScope N__breaks_shadow P__breaks_shadow (defScope st__breaks_shadow) := ⟨rfl, rfl, rfl, by decide +kernel, rfl, by decide +kernel, by decide +kernel⟩
theorem bs__breaks_shadow : BindsAs "_breaks_shadow" st__breaks_shadow P__breaks_shadow := fun _ _ _ _ _ _ us hl => match us, hl with | [_, _, _], _ => rfl
theorem j__breaks_shadow : BodyCx P w K mg base "_breaks_shadow" st__breaks_shadow N__breaks_shadow 0 fun X => JSs X (defBody st__breaks_shadow) g__breaks_shadow := fun f cdv A outer s H E hr => js_cons (js_asg (vs := [3, 4, 5]) (je_v 2) (jg_tup rfl (jgs_cons (jg_n 3 sc__breaks_shadow.nd) (jgs_cons (jg_n 4 sc__breaks_shadow.nd) (jgs_cons (jg_n 5 sc__breaks_shadow.nd) (jgs_nil)))))) (js_cons (js_if (jt_cmp (opd_eq hr.units) (je_v 1) (je_str) (nomark _)) (js_one (js_ret (je_and (je_cmp opd_lt (je_v 4) (je_v 5) (nomark _)) (je_one (je_cmp (opd_eq hr.units) (je_ix (je_ix (je_v 0) (je_v 3)) (je_v 4)) (je_ix (je_ix (je_v 0) (je_v 3)) (je_v 5)) (nomark _)))))) (js_nil)) (js_one (js_ret (je_cmp (opd_ne hr.units) (je_ix (je_ix (je_v 0) (je_v 3)) (je_ix (je_ix (je_v 0) (je_v 4)) (je_v 5))) (je_ix (je_ix (je_v 0) (je_ix (je_ix (je_v 0) (je_v 3)) (je_v 4))) (je_ix (je_ix (je_v 0) (je_v 3)) (je_v 5))) (nomark _)))))
theorem sc__law_dice : FnScope N__law_dice P__law_dice (defScope st__law_dice) := ⟨rfl, rfl, rfl, by decide +kernel, rfl, by decide +kernel, by decide +kernel⟩
theorem bs__law_dice : BindsAs "_law_dice" st__law_dice P__law_dice := fun _ _ _ _ _ _ us hl => match us, hl with | [_, _], _ => rfl
theorem j__law_dice (B : Bl mg) : BodyCx P w K mg base "_law_dice" st__law_dice N__law_dice 0 fun X => JSL X (defBody st__law_dice) g__law_dice := fun f cdv A outer s H E hr => jsl_cons (js_set (i := 2) ((je_if (jt_cmp opd_lt (je_v 1) (je_callB calld_len B.len (by decide +kernel) (ja_cons (je_v 0) (ja_nil))) (nomark _)) (je_callTy calld_int B.int (by decide +kernel) (ja_cons (je_ix (je_v 0) (je_v 1)) (ja_nil))) (je_bin opd_add (je_bin opd_mulA (je_int) (je_v 1)) (je_int))).jx) sc__law_dice.nd rfl (by first | exact Or.inl rfl | exact Or.inr rfl)) (jsl_cons (js_set (i := 3) ((je_bin opd_mod (je_callB (calld_max2 rfl) B.max (by decide +kernel) (ja_cons (je_int) (ja_cons (je_bin opd_sub (je_callB calld_abs B.abs (by decide +kernel) (ja_cons (je_v 2) (ja_nil))) (je_bin opd_pow (je_int) (je_int))) (ja_nil)))) (je_bin opd_mulA (je_bin opd_pow (je_int) (je_int)) (je_bin opd_pow (je_int) (je_int)))).jx) sc__law_dice.nd rfl (by first | exact Or.inl rfl | exact Or.inr rfl)) (jsl_ret (jl_lst (ja_cons (je_v 3) (ja_cons (je_bin opd_add (je_bin opd_add (je_bin opd_add (je_bin opd_mulA (je_bin opd_mod (je_callB calld_abs B.abs (by decide +kernel) (ja_cons (je_v 2) (ja_nil))) (je_int)) (je_int)) (je_bin opd_mulA (je_int) (je_v 1))) (je_bin opd_mulA (je_int) (je_callTy calld_int B.int (by decide +kernel) (ja_cons (je_cmp opd_lt (je_v 2) (je_int) (nomark _)) (ja_nil))))) (je_int)) (ja_cons (je_int) (ja_nil)))))))
theorem sc__law_roll : FnScope N__law_roll P__law_roll (defScope st__law_roll) := ⟨rfl, rfl, rfl, by decide +kernel, rfl, by decide +kernel, by decide +kernel⟩
theorem bs__law_roll : BindsAs "_law_roll" st__law_roll P__law_roll := fun _ _ _ _ _ _ us hl => match us, hl with | [_, _], _ => rfl
theorem j__law_roll (B : Bl mg) : BodyCx P w K mg base "_law_roll" st__law_roll N__law_roll 0 fun X => JSs X (defBody st__law_roll) g__law_roll := fun f cdv A outer s H E hr => js_cons (js_if (jt_cmp opd_gt (je_ixP (i := 0) rfl (by first | exact Or.inl rfl | exact Or.inr (Or.inl rfl) | exact Or.inr (Or.inr rfl)) (je_int)) (je_int) (nomark _)) (js_cons (js_set (i := 2) ((je_bin opd_mod (je_callTy calld_int B.int (by decide +kernel) (ja_cons (je_ixP (i := 0) rfl (by first | exact Or.inl rfl | exact Or.inr (Or.inl rfl) | exact Or.inr (Or.inr rfl)) (je_int)) (ja_nil))) (je_v 1)).jx) sc__law_roll.nd rfl (by first | exact Or.inl rfl | exact Or.inr rfl)) (js_cons (js_sub (i := 0) rfl (by first | exact Or.inl rfl | exact Or.inr (Or.inl rfl) | exact Or.inr (Or.inr rfl)) (je_int) (je_bin opd_fdiv (je_ixP (i := 0) rfl (by first | exact Or.inl rfl | exact Or.inr (Or.inl rfl) | exact Or.inr (Or.inr rfl)) (je_int)) (je_v 1))) (js_one (js_ret (je_v 2))))) (js_nil)) (js_cons (js_sub (i := 0) rfl (by first | exact Or.inl rfl | exact Or.inr (Or.inl rfl) | exact Or.inr (Or.inr rfl)) (je_int) (je_bin opd_add (je_ixP (i := 0) rfl (by first | exact Or.inl rfl | exact Or.inr (Or.inl rfl) | exact Or.inr (Or.inr rfl)) (je_int)) (je_int))) (js_cons (js_set (i := 3) ((je_bin opd_mod (je_callTy calld_int B.int (by decide +kernel) (ja_cons (je_bin opd_add (je_ixP (i := 0) rfl (by first | exact Or.inl rfl | exact Or.inr (Or.inl rfl) | exact Or.inr (Or.inr rfl)) (je_int)) (je_bin opd_mulA (je_int) (je_ixP (i := 0) rfl (by first | exact Or.inl rfl | exact Or.inr (Or.inl rfl) | exact Or.inr (Or.inr rfl)) (je_int)))) (ja_nil))) (je_int)).jx) sc__law_roll.nd rfl (by first | exact Or.inl rfl | exact Or.inr rfl)) (js_cons (js_set (i := 4) ((je_bin opd_add (je_bin opd_mulA (je_bin opd_mod (je_callTy calld_int B.int (by decide +kernel) (ja_cons (je_bin opd_add (je_bin opd_mulA (je_v 3) (je_v 3)) (je_bin opd_mulA (je_int) (je_ixP (i := 0) rfl (by first | exact Or.inl rfl | exact Or.inr (Or.inl rfl) | exact Or.inr (Or.inr rfl)) (je_int)))) (ja_nil))) (je_int)) (je_int)) (je_v 3)).jx) sc__law_roll.nd rfl (by first | exact Or.inl rfl | exact Or.inr rfl)) (js_one (js_ret (je_bin opd_mod (je_callTy calld_int B.int (by decide +kernel) (ja_cons (je_bin opd_fdiv (je_v 4) (je_int)) (ja_nil))) (je_v 1)))))))
theorem sc__law_pick : FnScope N__law_pick P__law_pick (defScope st__law_pick) := ⟨rfl, rfl, rfl, by decide +kernel, rfl, by decide +kernel, by decide +kernel⟩
theorem bs__law_pick : BindsAs "_law_pick" st__law_pick P__law_pick := fun _ _ _ _ _ _ us hl => match us, hl with | [_, _], _ => rfl
theorem j__law_pick (B : Bl mg) (O__law_roll : Ok P w K mg base "_law_roll" P__law_roll 1 (spM K 2 S__law_roll)) : BodyCx P w K mg base "_law_pick" st__law_pick N__law_pick 1 fun X => JSs X (defBody st__law_pick) g__law_pick := fun f cdv A outer s H E hr => js_one (js_ret (je_ix (je_v 1) (je_fnM O__law_roll (hr.mono (by decide)) (i := 0) rfl (by first | exact Or.inl rfl | exact Or.inr (Or.inl rfl) | exact Or.inr (Or.inr rfl)) (ja_cons (je_callB calld_len B.len (by decide +kernel) (ja_cons (je_v 1) (ja_nil))) (ja_nil)))))
theorem sc__law_mixed : FnScope N__law_mixed P__law_mixed (defScope st__law_mixed) := ⟨rfl, rfl, rfl, by decide +kernel, rfl, by decide +kernel, by decide +kernel⟩
theorem bs__law_mixed : BindsAs "_law_mixed" st__law_mixed P__law_mixed := fun _ _ _ _ _ _ us hl => match us, hl with | [_, _], _ => rfl
theorem j__law_mixed (B : Bl mg) (O__law_roll : Ok P w K mg base "_law_roll" P__law_roll 1 (spM K 2 S__law_roll)) : BodyCx P w K mg base "_law_mixed" st__law_mixed N__law_mixed 1 fun X => JSs X (defBody st__law_mixed) g__law_mixed := fun f cdv A outer s H E hr => js_cons (js_par (i := 2) (j := 3) rfl sc__law_mixed.nd rfl rfl (by decide) rfl rfl ((jl_list B.list (je_v 1)).jx) ((jl_lst (ja_nil)).jx) rfl) (js_cons (js_for (vs := [4]) rfl (ji_r1 B.range (je_callB calld_len B.len (by decide +kernel) (ja_cons (je_v 1) (ja_nil)))) (jg_n 4 sc__law_mixed.nd) (js_one (js_expr (je_app (i := 3) rfl (by first | exact Or.inl rfl | exact Or.inr (Or.inl rfl) | exact Or.inr (Or.inr rfl)) (je_popAt (i := 2) rfl (by first | exact Or.inl rfl | exact Or.inr (Or.inl rfl) | exact Or.inr (Or.inr rfl)) (je_fnM O__law_roll (hr.mono (by decide)) (i := 0) rfl (by first | exact Or.inl rfl | exact Or.inr (Or.inl rfl) | exact Or.inr (Or.inr rfl)) (ja_cons (je_callBO calld_len B.len (by decide +kernel) (i := 2) rfl (by first | exact Or.inl rfl | exact Or.inr (Or.inl rfl) | exact Or.inr (Or.inr rfl))) (ja_nil)))))))) (js_one (js_retO (i := 3) rfl (by first | exact Or.inl rfl | exact Or.inr (Or.inl rfl) | exact Or.inr (Or.inr rfl)))))
theorem sc__law_orders : FnScope N__law_orders P__law_orders (defScope st__law_orders) := ⟨rfl, rfl, rfl, by decide +kernel, rfl, by decide +kernel, by decide +kernel⟩
theorem bs__law_orders : BindsAs "_law_orders" st__law_orders P__law_orders := fun _ _ _ _ _ _ us hl => match us, hl with | [_], _ => rfl
theorem j__law_orders (B : Bl mg) : BodyCx P w K mg base "_law_orders" st__law_orders N__law_orders 0 fun X => JSs X (defBody st__law_orders) g__law_orders := fun f cdv A outer s H E hr => js_cons (js_set (i := 1) (((jl_lst (ja_cons (je_tup (ja_nil)) (ja_nil))).je).jx) sc__law_orders.nd rfl (by first | exact Or.inl rfl | exact Or.inr rfl)) (js_cons (js_for (vs := [2]) rfl (ji_r1 B.range (je_v 0)) (jg_n 2 sc__law_orders.nd) (js_cons (js_set (i := 3) ((jl_lst (ja_nil)).jx) sc__law_orders.nd rfl (by first | exact Or.inl rfl | exact Or.inr rfl)) (js_cons (js_for (vs := [4]) rfl (ji_sq (je_v 1)) (jg_n 4 sc__law_orders.nd) (js_one (js_expr (je_ext (i := 3) rfl (by first | exact Or.inl rfl | exact Or.inr (Or.inl rfl) | exact Or.inr (Or.inr rfl)) ((jl_lc (own := [("_law_thing", 5)]) rfl sc__law_orders.nd (ji_r1 B.range (je_v 0)) (blkOk_by (by rfl)) (fun _ _ _ _ _ => jg_n 5 sc__law_orders.nd) (fun _ _ _ _ _ => jts_one (jt_cmp opd_notin (je_v 5) (je_v 4) rfl)) (fun _ _ _ _ _ => je_bin opd_add (je_v 4) (je_tup (ja_cons (je_v 5) (ja_nil))))).je))))) (js_one (js_set (i := 1) (((jl_listO B.list (i := 3) rfl (by first | exact Or.inl rfl | exact Or.inr (Or.inl rfl) | exact Or.inr (Or.inr rfl))).je).jx) sc__law_orders.nd rfl (by first | exact Or.inl rfl | exact Or.inr rfl)))))) (js_one (js_ret (je_v 1))))
theorem sc__law_joined : FnScope N__law_joined P__law_joined (defScope st__law_joined) := ⟨rfl, rfl, rfl, by decide +kernel, rfl, by decide +kernel, by decide +kernel⟩
theorem bs__law_joined : BindsAs "_law_joined" st__law_joined P__law_joined := fun _ _ _ _ _ _ us hl => match us, hl with | [_, _], _ => rfl
theorem j__law_joined (B : Bl mg) : BodyCx P w K mg base "_law_joined" st__law_joined N__law_joined 0 fun X => JSs X (defBody st__law_joined) g__law_joined := fun f cdv A outer s H E hr => js_one (js_ret (je_callTy calld_tuple B.tuple (by decide +kernel) (ja_cons ((jl_lc (own := [("_law_thing", 2)]) rfl sc__law_joined.nd (ji_sq (je_v 1)) (blkOk_by (by rfl)) (fun _ _ _ _ _ => jg_n 2 sc__law_joined.nd) (fun _ _ _ _ _ => jts_nil) (fun _ _ _ _ _ => je_ix (je_v 0) (je_v 2))).je) (ja_nil))))
theorem sc__law_undone : FnScope N__law_undone P__law_undone (defScope st__law_undone) := ⟨rfl, rfl, rfl, by decide +kernel, rfl, by decide +kernel, by decide +kernel⟩
theorem bs__law_undone : BindsAs "_law_undone" st__law_undone P__law_undone := fun _ _ _ _ _ _ us hl => match us, hl with | [_], _ => rfl
theorem j__law_undone (B : Bl mg) : BodyCx P w K mg base "_law_undone" st__law_undone N__law_undone 0 fun X => JSs X (defBody st__law_undone) g__law_undone := fun f cdv A outer s H E hr => js_cons (js_lcO (own := [("_law_thing", 2)]) rfl sc__law_undone.nd (i := 1) rfl rfl (sw_true rfl rfl rfl (by decide +kernel)) (ji_sq (je_v 0)) (blkOk_by (by rfl)) (fun _ _ _ _ _ => jg_n 2 sc__law_undone.nd) (fun _ _ _ _ _ => jts_nil) (fun _ _ _ _ _ => je_int)) (js_cons (js_for (vs := [2, 3]) rfl (ji_en B.enumerate (je_v 0)) (jg_tup rfl (jgs_cons (jg_n 2 sc__law_undone.nd) (jgs_cons (jg_n 3 sc__law_undone.nd) (jgs_nil)))) (js_one (js_sub (i := 1) rfl (by first | exact Or.inl rfl | exact Or.inr (Or.inl rfl) | exact Or.inr (Or.inr rfl)) (je_v 3) (je_v 2)))) (js_one (js_ret (je_tupleO B.tuple (i := 1) rfl (by first | exact Or.inl rfl | exact Or.inr (Or.inl rfl) | exact Or.inr (Or.inr rfl))))))
theorem sc__law_drawn_move : FnScope N__law_drawn_move P__law_drawn_move (defScope st__law_drawn_move) := ⟨rfl, rfl, rfl, by decide +kernel, rfl, by decide +kernel, by decide +kernel⟩
theorem bs__law_drawn_move : BindsAs "_law_drawn_move" st__law_drawn_move P__law_drawn_move := fun _ _ _ _ _ _ us hl => match us, hl with | [_, _], _ => rfl
theorem j__law_drawn_move (B : Bl mg) (O__law_mixed : Ok P w K mg base "_law_mixed" P__law_mixed 2 (spM K 2 S__law_mixed)) : BodyCx P w K mg base "_law_drawn_move" st__law_drawn_move N__law_drawn_move 2 fun X => JSs X (defBody st__law_drawn_move) g__law_drawn_move := fun f cdv A outer s H E hr => js_one (js_ret (je_callTy calld_tuple B.tuple (by decide +kernel) (ja_cons (je_fnM O__law_mixed (hr.mono (by decide)) (i := 0) rfl (by first | exact Or.inl rfl | exact Or.inr (Or.inl rfl) | exact Or.inr (Or.inr rfl)) (ja_cons ((jl_rg rfl B.list (jr_1 B.range (je_v 1))).je) (ja_nil))) (ja_nil))))
theorem sc__law_renamed_dots : FnScope N__law_renamed_dots P__law_renamed_dots (defScope st__law_renamed_dots) := ⟨rfl, rfl, rfl, by decide +kernel, rfl, by decide +kernel, by decide +kernel⟩
theorem bs__law_renamed_dots : BindsAs "_law_renamed_dots" st__law_renamed_dots P__law_renamed_dots := fun _ _ _ _ _ _ us hl => match us, hl with | [_, _], _ => rfl
theorem j__law_renamed_dots (B : Bl mg) (O__law_undone : Ok P w K mg base "_law_undone" P__law_undone 1 (spD K 1 S__law_undone)) : BodyCx P w K mg base "_law_renamed_dots" st__law_renamed_dots N__law_renamed_dots 1 fun X => JSs X (defBody st__law_renamed_dots) g__law_renamed_dots := fun f cdv A outer s H E hr => js_cons (js_set (i := 2) ((je_fn O__law_undone (hr.mono (by decide)) (ja_cons (je_v 1) (ja_nil))).jx) sc__law_renamed_dots.nd rfl (by first | exact Or.inl rfl | exact Or.inr rfl)) (js_one (js_ret ((jl_lc (own := [("_law_x", 3)]) rfl sc__law_renamed_dots.nd (ji_sq (je_v 1)) (blkOk_by (by rfl)) (fun _ _ _ _ _ => jg_n 3 sc__law_renamed_dots.nd) (fun _ _ _ _ _ => jts_nil) (fun _ _ _ _ _ => je_callTy calld_tuple B.tuple (by decide +kernel) (ja_cons ((jl_lc (own := [("_law_y", 4)]) rfl sc__law_renamed_dots.nd (ji_sq (je_v 1)) (blkOk_by (by rfl)) (fun _ _ _ _ _ => jg_n 4 sc__law_renamed_dots.nd) (fun _ _ _ _ _ => jts_nil) (fun _ _ _ _ _ => je_ix (je_v 2) (je_ix (je_ix (je_v 0) (je_v 3)) (je_v 4)))).je) (ja_nil)))).je)))
theorem sc__law_keeps_dots : FnScope N__law_keeps_dots P__law_keeps_dots (defScope st__law_keeps_dots) := ⟨rfl, rfl, rfl, by decide +kernel, rfl, by decide +kernel, by decide +kernel⟩
theorem bs__law_keeps_dots : BindsAs "_law_keeps_dots" st__law_keeps_dots P__law_keeps_dots := fun _ _ _ _ _ _ us hl => match us, hl with | [_, _], _ => rfl
theorem j__law_keeps_dots (B : Bl mg) : BodyCx P w K mg base "_law_keeps_dots" st__law_keeps_dots N__law_keeps_dots 0 fun X => JSs X (defBody st__law_keeps_dots) g__law_keeps_dots := fun f cdv A outer s H E hr => js_cons (js_for (vs := [2, 3]) rfl (ji_en B.enumerate (je_v 0)) (jg_tup rfl (jgs_cons (jg_n 2 sc__law_keeps_dots.nd) (jgs_cons (jg_n 3 sc__law_keeps_dots.nd) (jgs_nil)))) (js_cons (js_set (i := 4) ((je_ix (je_v 0) (je_ix (je_v 1) (je_v 2))).jx) sc__law_keeps_dots.nd rfl (by first | exact Or.inl rfl | exact Or.inr rfl)) (js_one (js_if (jt_not (jt_val (je_callB (calld_all rfl) B.all (by decide +kernel) (ja_cons ((jl_lc (own := [("_law_y", 5), ("_law_goal", 6)]) rfl sc__law_keeps_dots.nd (ji_en B.enumerate (je_v 3)) (blkOk_by (by rfl)) (fun _ _ _ _ _ => jg_tup rfl (jgs_cons (jg_n 5 sc__law_keeps_dots.nd) (jgs_cons (jg_n 6 sc__law_keeps_dots.nd) (jgs_nil)))) (fun _ _ _ _ _ => jts_nil) (fun _ _ _ _ _ => je_cmp (opd_eq hr.units) (je_ix (je_v 1) (je_v 6)) (je_ix (je_v 4) (je_ix (je_v 1) (je_v 5))) (nomark _))).je) (ja_nil))))) (js_one (js_ret (je_bl))) (js_nil))))) (js_one (js_ret (je_bl)))
theorem sc__law_union_dots : FnScope N__law_union_dots P__law_union_dots (defScope st__law_union_dots) := ⟨rfl, rfl, rfl, by decide +kernel, rfl, by decide +kernel, by decide +kernel⟩
theorem bs__law_union_dots : BindsAs "_law_union_dots" st__law_union_dots P__law_union_dots := fun _ _ _ _ _ _ us hl => match us, hl with | [_, _, _, _], _ => rfl
theorem j__law_union_dots (B : Bl mg) : BodyCx P w K mg base "_law_union_dots" st__law_union_dots N__law_union_dots 0 fun X => JSs X (defBody st__law_union_dots) g__law_union_dots := fun f cdv A outer s H E hr => js_cons (js_parT (i := 4) (j := 5) rfl sc__law_union_dots.nd rfl rfl (by decide) (by first | exact Or.inl rfl | exact Or.inr rfl) (by first | exact Or.inl rfl | exact Or.inr rfl) ((je_callB calld_len B.len (by decide +kernel) (ja_cons (je_v 0) (ja_nil))).jx) ((jl_lst (ja_nil)).jx)) (js_cons (js_for (vs := [6]) rfl (ji_sq (je_v 0)) (jg_n 6 sc__law_union_dots.nd) (js_one (js_expr (je_app (i := 5) rfl (by first | exact Or.inl rfl | exact Or.inr (Or.inl rfl) | exact Or.inr (Or.inr rfl)) (je_callTy calld_tuple B.tuple (by decide +kernel) (ja_cons (je_bin opd_add ((jl_list B.list (je_v 6)).je) ((jl_lc (own := [("_law_goal", 7)]) rfl sc__law_union_dots.nd (ji_sq (je_v 2)) (blkOk_by (by rfl)) (fun _ _ _ _ _ => jg_n 7 sc__law_union_dots.nd) (fun _ _ _ _ _ => jts_nil) (fun _ _ _ _ _ => je_bin opd_add (je_v 4) (je_v 7))).je)) (ja_nil))))))) (js_cons (js_for (vs := [6]) rfl (ji_sq (je_v 1)) (jg_n 6 sc__law_union_dots.nd) (js_one (js_expr (je_app (i := 5) rfl (by first | exact Or.inl rfl | exact Or.inr (Or.inl rfl) | exact Or.inr (Or.inr rfl)) (je_callTy calld_tuple B.tuple (by decide +kernel) (ja_cons (je_bin opd_add ((jl_list B.list (je_v 3)).je) ((jl_lc (own := [("_law_goal", 7)]) rfl sc__law_union_dots.nd (ji_sq (je_v 6)) (blkOk_by (by rfl)) (fun _ _ _ _ _ => jg_n 7 sc__law_union_dots.nd) (fun _ _ _ _ _ => jts_nil) (fun _ _ _ _ _ => je_bin opd_add (je_v 4) (je_v 7))).je)) (ja_nil))))))) (js_one (js_retO (i := 5) rfl (by first | exact Or.inl rfl | exact Or.inr (Or.inl rfl) | exact Or.inr (Or.inr rfl))))))
theorem sc__law_places_of : FnScope N__law_places_of P__law_places_of (defScope st__law_places_of) := ⟨rfl, rfl, rfl, by decide +kernel, rfl, by decide +kernel, by decide +kernel⟩
theorem bs__law_places_of : BindsAs "_law_places_of" st__law_places_of P__law_places_of := fun _ _ _ _ _ _ us hl => match us, hl with | [_, _], _ => rfl
theorem j__law_places_of (B : Bl mg) : BodyCx P w K mg base "_law_places_of" st__law_places_of N__law_places_of 0 fun X => JSs X (defBody st__law_places_of) g__law_places_of := fun f cdv A outer s H E hr => js_one (js_ret ((jl_lc (own := [("_law_at", 2)]) rfl sc__law_places_of.nd (ji_r1 B.range (je_bin opd_mulA (je_v 0) (je_v 1))) (blkOk_by (by rfl)) (fun _ _ _ _ _ => jg_n 2 sc__law_places_of.nd) (fun _ _ _ _ _ => jts_nil) (fun _ _ _ _ _ => je_tup (ja_cons (je_bin opd_fdiv (je_v 2) (je_v 1)) (ja_cons (je_bin opd_mod (je_v 2) (je_v 1)) (ja_nil))))).je))
theorem sc__law_product_dots : FnScope N__law_product_dots P__law_product_dots (defScope st__law_product_dots) := ⟨rfl, rfl, rfl, by decide +kernel, rfl, by decide +kernel, by decide +kernel⟩
theorem bs__law_product_dots : BindsAs "_law_product_dots" st__law_product_dots P__law_product_dots := fun _ _ _ _ _ _ us hl => match us, hl with | [_, _], _ => rfl
theorem j__law_product_dots (B : Bl mg) (O__law_places_of : Ok P w K mg base "_law_places_of" P__law_places_of 1 (spD K 2 S__law_places_of)) : BodyCx P w K mg base "_law_product_dots" st__law_product_dots N__law_product_dots 1 fun X => JSs X (defBody st__law_product_dots) g__law_product_dots := fun f cdv A outer s H E hr => js_cons (js_parT (i := 2) (j := 3) rfl sc__law_product_dots.nd rfl rfl (by decide) (by first | exact Or.inl rfl | exact Or.inr rfl) (by first | exact Or.inl rfl | exact Or.inr rfl) ((je_callB calld_len B.len (by decide +kernel) (ja_cons (je_v 1) (ja_nil))).jx) ((jl_lst (ja_nil)).jx)) (js_cons (js_set (i := 4) ((je_fn O__law_places_of (hr.mono (by decide)) (ja_cons (je_callB calld_len B.len (by decide +kernel) (ja_cons (je_v 0) (ja_nil))) (ja_cons (je_v 2) (ja_nil)))).jx) sc__law_product_dots.nd rfl (by first | exact Or.inl rfl | exact Or.inr rfl)) (js_cons (js_for (vs := [5, 6]) rfl (ji_sq (je_v 4)) (jg_tup rfl (jgs_cons (jg_n 5 sc__law_product_dots.nd) (jgs_cons (jg_n 6 sc__law_product_dots.nd) (jgs_nil)))) (js_cons (js_parT (i := 7) (j := 8) rfl sc__law_product_dots.nd rfl rfl (by decide) (by first | exact Or.inl rfl | exact Or.inr rfl) (by first | exact Or.inl rfl | exact Or.inr rfl) ((je_ix (je_v 0) (je_v 5)).jx) ((je_ix (je_v 1) (je_v 6)).jx)) (js_one (js_expr (je_app (i := 3) rfl (by first | exact Or.inl rfl | exact Or.inr (Or.inl rfl) | exact Or.inr (Or.inr rfl)) (je_callTy calld_tuple B.tuple (by decide +kernel) (ja_cons ((jl_lc (own := [("_law_a", 9), ("_law_b", 10)]) rfl sc__law_product_dots.nd (ji_sq (je_v 4)) (blkOk_by (by rfl)) (fun _ _ _ _ _ => jg_tup rfl (jgs_cons (jg_n 9 sc__law_product_dots.nd) (jgs_cons (jg_n 10 sc__law_product_dots.nd) (jgs_nil)))) (fun _ _ _ _ _ => jts_nil) (fun _ _ _ _ _ => je_bin opd_add (je_bin opd_mulA (je_ix (je_v 7) (je_v 9)) (je_v 2)) (je_ix (je_v 8) (je_v 10)))).je) (ja_nil)))))))) (js_one (js_retO (i := 3) rfl (by first | exact Or.inl rfl | exact Or.inr (Or.inl rfl) | exact Or.inr (Or.inr rfl))))))
theorem sc__law_small_dots : FnScope N__law_small_dots P__law_small_dots (defScope st__law_small_dots) := ⟨rfl, rfl, rfl, by decide +kernel, rfl, by decide +kernel, by decide +kernel⟩
theorem bs__law_small_dots : BindsAs "_law_small_dots" st__law_small_dots P__law_small_dots := fun _ _ _ _ _ _ us hl => match us, hl with | [_, _], _ => rfl
theorem j__law_small_dots (B : Bl mg) (O__law_roll : Ok P w K mg base "_law_roll" P__law_roll 1 (spM K 2 S__law_roll)) (O__law_pick : Ok P w K mg base "_law_pick" P__law_pick 2 (spM K 2 S__law_pick)) (O__law_drawn_move : Ok P w K mg base "_law_drawn_move" P__law_drawn_move 3 (spM K 2 S__law_drawn_move)) : BodyCx P w K mg base "_law_small_dots" st__law_small_dots N__law_small_dots 3 fun X => JSs X (defBody st__law_small_dots) g__law_small_dots := fun f cdv A outer s H E hr => js_cons (js_set (i := 2) ((je_fnM O__law_roll (hr.mono (by decide)) (i := 0) rfl (by first | exact Or.inl rfl | exact Or.inr (Or.inl rfl) | exact Or.inr (Or.inr rfl)) (ja_cons (je_int) (ja_nil))).jx) sc__law_small_dots.nd rfl (by first | exact Or.inl rfl | exact Or.inr rfl)) (js_cons (js_if ((jw_and (jt_cmp (opd_eq hr.units) (je_v 2) (je_int) (nomark _)) (jw_and1 (jt_cmp opd_gt (je_v 1) (je_int) (nomark _)))).jt) (js_one (js_ret ((jl_lst (ja_cons (je_tup (ja_cons (je_int) (ja_cons (je_int) (ja_cons (je_int) (ja_cons (je_int) (ja_nil)))))) (ja_cons (je_tup (ja_cons (je_int) (ja_cons (je_int) (ja_cons (je_int) (ja_cons (je_int) (ja_nil)))))) (ja_cons (je_tup (ja_cons (je_int) (ja_cons (je_int) (ja_cons (je_int) (ja_cons (je_int) (ja_nil)))))) (ja_cons (je_tup (ja_cons (je_int) (ja_cons (je_int) (ja_cons (je_int) (ja_cons (je_int) (ja_nil)))))) (ja_nil)))))).je))) (js_nil)) (js_cons (js_if ((jw_and (jt_cmp (opd_eq hr.units) (je_v 2) (je_int) (nomark _)) (jw_and1 (jt_cmp opd_gt (je_v 1) (je_int) (nomark _)))).jt) (js_one (js_ret ((jl_lst (ja_cons (je_tup (ja_cons (je_int) (ja_cons (je_int) (ja_cons (je_int) (ja_cons (je_int) (ja_nil)))))) (ja_cons (je_tup (ja_cons (je_int) (ja_cons (je_int) (ja_cons (je_int) (ja_cons (je_int) (ja_nil)))))) (ja_cons (je_tup (ja_cons (je_int) (ja_cons (je_int) (ja_cons (je_int) (ja_cons (je_int) (ja_nil)))))) (ja_cons (je_tup (ja_cons (je_int) (ja_cons (je_int) (ja_cons (je_int) (ja_cons (je_int) (ja_nil)))))) (ja_nil)))))).je))) (js_nil)) (js_cons (js_if ((jw_and (jt_cmp (opd_eq hr.units) (je_v 2) (je_int) (nomark _)) (jw_and1 (jt_cmp opd_gt (je_v 1) (je_int) (nomark _)))).jt) (js_one (js_ret (je_fnM O__law_pick (hr.mono (by decide)) (i := 0) rfl (by first | exact Or.inl rfl | exact Or.inr (Or.inl rfl) | exact Or.inr (Or.inr rfl)) (ja_cons ((jl_lst (ja_cons ((jl_lst (ja_cons (je_tup (ja_cons (je_int) (ja_cons (je_int) (ja_cons (je_int) (ja_cons (je_int) (ja_nil)))))) (ja_cons (je_tup (ja_cons (je_int) (ja_cons (je_int) (ja_cons (je_int) (ja_cons (je_int) (ja_nil)))))) (ja_cons (je_tup (ja_cons (je_int) (ja_cons (je_int) (ja_cons (je_int) (ja_cons (je_int) (ja_nil)))))) (ja_cons (je_tup (ja_cons (je_int) (ja_cons (je_int) (ja_cons (je_int) (ja_cons (je_int) (ja_nil)))))) (ja_nil)))))).je) (ja_cons ((jl_lst (ja_cons (je_tup (ja_cons (je_int) (ja_cons (je_int) (ja_cons (je_int) (ja_cons (je_int) (ja_nil)))))) (ja_cons (je_tup (ja_cons (je_int) (ja_cons (je_int) (ja_cons (je_int) (ja_cons (je_int) (ja_nil)))))) (ja_cons (je_tup (ja_cons (je_int) (ja_cons (je_int) (ja_cons (je_int) (ja_cons (je_int) (ja_nil)))))) (ja_cons (je_tup (ja_cons (je_int) (ja_cons (je_int) (ja_cons (je_int) (ja_cons (je_int) (ja_nil)))))) (ja_nil)))))).je) (ja_nil)))).je) (ja_nil))))) (js_nil)) (js_cons (js_set (i := 3) ((je_bin opd_add (je_int) (je_fnM O__law_roll (hr.mono (by decide)) (i := 0) rfl (by first | exact Or.inl rfl | exact Or.inr (Or.inl rfl) | exact Or.inr (Or.inr rfl)) (ja_cons (je_callB (calld_min2 rfl) B.min (by decide +kernel) (ja_cons (je_int) (ja_cons (je_v 1) (ja_nil)))) (ja_nil)))).jx) sc__law_small_dots.nd rfl (by first | exact Or.inl rfl | exact Or.inr rfl)) (js_cons (js_set (i := 4) ((je_if (jt_cmp opd_gt (je_fnM O__law_roll (hr.mono (by decide)) (i := 0) rfl (by first | exact Or.inl rfl | exact Or.inr (Or.inl rfl) | exact Or.inr (Or.inr rfl)) (ja_cons (je_int) (ja_nil))) (je_int) (nomark _)) (je_fnM O__law_drawn_move (hr.mono (by decide)) (i := 0) rfl (by first | exact Or.inl rfl | exact Or.inr (Or.inl rfl) | exact Or.inr (Or.inr rfl)) (ja_cons (je_v 3) (ja_nil))) (je_tupRg rfl B.tuple (jr_1 B.range (je_v 3)))).jx) sc__law_small_dots.nd rfl (by first | exact Or.inl rfl | exact Or.inr rfl)) (js_one (js_ret ((jl_lc (own := [("_law_letter", 5)]) rfl sc__law_small_dots.nd (ji_r1 B.range (je_v 3)) (blkOk_by (by rfl)) (fun _ _ _ _ _ => jg_n 5 sc__law_small_dots.nd) (fun _ _ _ _ _ => jts_nil) (fun _ _ _ _ _ => je_v 4)).je))))))))
theorem sc__law_rows_of_dots : FnScope N__law_rows_of_dots P__law_rows_of_dots (defScope st__law_rows_of_dots) := ⟨rfl, rfl, rfl, by decide +kernel, rfl, by decide +kernel, by decide +kernel⟩
theorem bs__law_rows_of_dots : BindsAs "_law_rows_of_dots" st__law_rows_of_dots P__law_rows_of_dots := fun _ _ _ _ _ _ us hl => match us, hl with | [_], _ => rfl
theorem j__law_rows_of_dots (B : Bl mg) (O__law_undone : Ok P w K mg base "_law_undone" P__law_undone 1 (spD K 1 S__law_undone)) : BodyCx P w K mg base "_law_rows_of_dots" st__law_rows_of_dots N__law_rows_of_dots 1 fun X => JSs X (defBody st__law_rows_of_dots) g__law_rows_of_dots := fun f cdv A outer s H E hr => js_cons (js_par (i := 1) (j := 2) rfl sc__law_rows_of_dots.nd rfl rfl (by decide) rfl rfl ((je_callB calld_len B.len (by decide +kernel) (ja_cons (je_v 0) (ja_nil))).jx) ((jl_lst (ja_nil)).jx) rfl) (js_cons (js_set (i := 3) (((jl_lc (own := [("_law_row", 5)]) rfl sc__law_rows_of_dots.nd (ji_sq (je_v 0)) (blkOk_by (by rfl)) (fun _ _ _ _ _ => jg_n 5 sc__law_rows_of_dots.nd) (fun _ _ _ _ _ => jts_nil) (fun _ _ _ _ _ => je_fn O__law_undone (hr.mono (by decide)) (ja_cons (je_v 5) (ja_nil)))).je).jx) sc__law_rows_of_dots.nd rfl (by first | exact Or.inl rfl | exact Or.inr rfl)) (js_cons (js_for (vs := [4]) rfl (ji_r1 B.range (je_v 1)) (jg_n 4 sc__law_rows_of_dots.nd) (js_one (js_expr (je_app (i := 2) rfl (by first | exact Or.inl rfl | exact Or.inr (Or.inl rfl) | exact Or.inr (Or.inr rfl)) (je_callTy calld_tuple B.tuple (by decide +kernel) (ja_cons ((jl_lc (own := [("_law_y", 6)]) rfl sc__law_rows_of_dots.nd (ji_r1 B.range (je_v 1)) (blkOk_by (by rfl)) (fun _ _ _ _ _ => jg_n 6 sc__law_rows_of_dots.nd) (fun _ _ _ _ _ => jts_nil) (fun _ _ _ _ _ => je_tup (ja_cons (je_ix (je_ix (je_v 3) (je_v 4)) (je_v 6)) (ja_cons (je_ix (je_ix (je_v 0) (je_ix (je_ix (je_v 3) (je_v 4)) (je_v 6))) (je_v 4)) (ja_nil))))).je) (ja_nil))))))) (js_one (js_ret (je_tupleO B.tuple (i := 2) rfl (by first | exact Or.inl rfl | exact Or.inr (Or.inl rfl) | exact Or.inr (Or.inr rfl)))))))
theorem sc__law_left_of : FnScope N__law_left_of P__law_left_of (defScope st__law_left_of) := ⟨rfl, rfl, rfl, by decide +kernel, rfl, by decide +kernel, by decide +kernel⟩
theorem bs__law_left_of : BindsAs "_law_left_of" st__law_left_of P__law_left_of := fun _ _ _ _ _ _ us hl => match us, hl with | [_], _ => rfl
theorem j__law_left_of (B : Bl mg) : BodyCx P w K mg base "_law_left_of" st__law_left_of N__law_left_of 0 fun X => JSs X (defBody st__law_left_of) g__law_left_of := fun f cdv A outer s H E hr => js_one (js_ret ((jl_lc (own := [("_law_row", 1)]) rfl sc__law_left_of.nd (ji_sq (je_v 0)) (blkOk_by (by rfl)) (fun _ _ _ _ _ => jg_n 1 sc__law_left_of.nd) (fun _ _ _ _ _ => jts_nil) (fun _ _ _ _ _ => je_callTy calld_tuple B.tuple (by decide +kernel) (ja_cons ((jl_lc (own := [("_law_pair", 2)]) rfl sc__law_left_of.nd (ji_sq (je_v 1)) (blkOk_by (by rfl)) (fun _ _ _ _ _ => jg_n 2 sc__law_left_of.nd) (fun _ _ _ _ _ => jts_nil) (fun _ _ _ _ _ => je_ix (je_v 2) (je_int))).je) (ja_nil)))).je))
theorem sc__law_right_of : FnScope N__law_right_of P__law_right_of (defScope st__law_right_of) := ⟨rfl, rfl, rfl, by decide +kernel, rfl, by decide +kernel, by decide +kernel⟩
theorem bs__law_right_of : BindsAs "_law_right_of" st__law_right_of P__law_right_of := fun _ _ _ _ _ _ us hl => match us, hl with | [_], _ => rfl
theorem j__law_right_of (B : Bl mg) : BodyCx P w K mg base "_law_right_of" st__law_right_of N__law_right_of 0 fun X => JSs X (defBody st__law_right_of) g__law_right_of := fun f cdv A outer s H E hr => js_one (js_ret ((jl_lc (own := [("_law_y", 1)]) rfl sc__law_right_of.nd (ji_r1 B.range (je_callB calld_len B.len (by decide +kernel) (ja_cons (je_v 0) (ja_nil)))) (blkOk_by (by rfl)) (fun _ _ _ _ _ => jg_n 1 sc__law_right_of.nd) (fun _ _ _ _ _ => jts_nil) (fun _ _ _ _ _ => je_callTy calld_tuple B.tuple (by decide +kernel) (ja_cons ((jl_lc (own := [("_law_x", 2)]) rfl sc__law_right_of.nd (ji_r1 B.range (je_callB calld_len B.len (by decide +kernel) (ja_cons (je_v 0) (ja_nil)))) (blkOk_by (by rfl)) (fun _ _ _ _ _ => jg_n 2 sc__law_right_of.nd) (fun _ _ _ _ _ => jts_nil) (fun _ _ _ _ _ => je_ix (je_ix (je_ix (je_v 0) (je_v 2)) (je_v 1)) (je_int))).je) (ja_nil)))).je))
theorem sc__law_renamed_rows : FnScope N__law_renamed_rows P__law_renamed_rows (defScope st__law_renamed_rows) := ⟨rfl, rfl, rfl, by decide +kernel, rfl, by decide +kernel, by decide +kernel⟩
theorem bs__law_renamed_rows : BindsAs "_law_renamed_rows" st__law_renamed_rows P__law_renamed_rows := fun _ _ _ _ _ _ us hl => match us, hl with | [_, _], _ => rfl
theorem j__law_renamed_rows (B : Bl mg) (O__law_undone : Ok P w K mg base "_law_undone" P__law_undone 1 (spD K 1 S__law_undone)) : BodyCx P w K mg base "_law_renamed_rows" st__law_renamed_rows N__law_renamed_rows 1 fun X => JSs X (defBody st__law_renamed_rows) g__law_renamed_rows := fun f cdv A outer s H E hr => js_cons (js_parT (i := 2) (j := 3) rfl sc__law_renamed_rows.nd rfl rfl (by decide) (by first | exact Or.inl rfl | exact Or.inr rfl) (by first | exact Or.inl rfl | exact Or.inr rfl) ((je_fn O__law_undone (hr.mono (by decide)) (ja_cons (je_v 1) (ja_nil))).jx) ((jl_lst (ja_nil)).jx)) (js_cons (js_for (vs := [4]) rfl (ji_sq (je_v 1)) (jg_n 4 sc__law_renamed_rows.nd) (js_one (js_expr (je_app (i := 3) rfl (by first | exact Or.inl rfl | exact Or.inr (Or.inl rfl) | exact Or.inr (Or.inr rfl)) (je_callTy calld_tuple B.tuple (by decide +kernel) (ja_cons ((jl_lc (own := [("_law_y", 5)]) rfl sc__law_renamed_rows.nd (ji_sq (je_v 1)) (blkOk_by (by rfl)) (fun _ _ _ _ _ => jg_n 5 sc__law_renamed_rows.nd) (fun _ _ _ _ _ => jts_nil) (fun _ _ _ _ _ => je_tup (ja_cons (je_ix (je_v 2) (je_ix (je_ix (je_ix (je_v 0) (je_v 4)) (je_v 5)) (je_int))) (ja_cons (je_ix (je_v 2) (je_ix (je_ix (je_ix (je_v 0) (je_v 4)) (je_v 5)) (je_int))) (ja_nil))))).je) (ja_nil))))))) (js_one (js_ret (je_tupleO B.tuple (i := 3) rfl (by first | exact Or.inl rfl | exact Or.inr (Or.inl rfl) | exact Or.inr (Or.inr rfl))))))
theorem sc__law_power : FnScope N__law_power P__law_power (defScope st__law_power) := ⟨rfl, rfl, rfl, by decide +kernel, rfl, by decide +kernel, by decide +kernel⟩
theorem bs__law_power : BindsAs "_law_power" st__law_power P__law_power := fun _ _ _ _ _ _ us hl => match us, hl with | [_, _], _ => rfl
theorem j__law_power (B : Bl mg) (O__law_joined : Ok P w K mg base "_law_joined" P__law_joined 1 (spD K 2 S__law_joined)) : BodyCx P w K mg base "_law_power" st__law_power N__law_power 1 fun X => JSs X (defBody st__law_power) g__law_power := fun f cdv A outer s H E hr => js_cons (js_set (i := 2) ((je_tupRg rfl B.tuple (jr_1 B.range (je_callB calld_len B.len (by decide +kernel) (ja_cons (je_v 0) (ja_nil))))).jx) sc__law_power.nd rfl (by first | exact Or.inl rfl | exact Or.inr rfl)) (js_cons (js_for (vs := [3]) rfl (ji_r1 B.range (je_v 1)) (jg_n 3 sc__law_power.nd) (js_one (js_set (i := 2) ((je_fn O__law_joined (hr.mono (by decide)) (ja_cons (je_v 0) (ja_cons (je_v 2) (ja_nil)))).jx) sc__law_power.nd rfl (by first | exact Or.inl rfl | exact Or.inr rfl)))) (js_one (js_ret (je_v 2))))
theorem sc__law_shadow_rows : FnScope N__law_shadow_rows P__law_shadow_rows (defScope st__law_shadow_rows) := ⟨rfl, rfl, rfl, by decide +kernel, rfl, by decide +kernel, by decide +kernel⟩
theorem bs__law_shadow_rows : BindsAs "_law_shadow_rows" st__law_shadow_rows P__law_shadow_rows := fun _ _ _ _ _ _ us hl => match us, hl with | [_], _ => rfl
theorem j__law_shadow_rows (B : Bl mg) (O__law_left_of : Ok P w K mg base "_law_left_of" P__law_left_of 1 (spD K 1 S__law_left_of)) (O__law_right_of : Ok P w K mg base "_law_right_of" P__law_right_of 1 (spD K 1 S__law_right_of)) (O__law_undone : Ok P w K mg base "_law_undone" P__law_undone 1 (spD K 1 S__law_undone)) : BodyCx P w K mg base "_law_shadow_rows" st__law_shadow_rows N__law_shadow_rows 1 fun X => JSs X (defBody st__law_shadow_rows) g__law_shadow_rows := fun f cdv A outer s H E hr => js_cons (js_par3 (i := 1) (j := 2) (k := 3) rfl sc__law_shadow_rows.nd rfl rfl rfl (by decide) (by decide) (by decide) rfl rfl rfl (je_fn O__law_left_of (hr.mono (by decide)) (ja_cons (je_v 0) (ja_nil))) (je_fn O__law_right_of (hr.mono (by decide)) (ja_cons (je_v 0) (ja_nil))) ((jl_lst (ja_nil)).jx) rfl) (js_cons (js_for (vs := [4]) rfl (ji_r1 B.range (je_callB calld_len B.len (by decide +kernel) (ja_cons (je_v 0) (ja_nil)))) (jg_n 4 sc__law_shadow_rows.nd) (js_cons (js_set (i := 5) ((jl_lst (ja_nil)).jx) sc__law_shadow_rows.nd rfl (by first | exact Or.inl rfl | exact Or.inr rfl)) (js_cons (js_for (vs := [6]) rfl (ji_r1 B.range (je_callB calld_len B.len (by decide +kernel) (ja_cons (je_v 0) (ja_nil)))) (jg_n 6 sc__law_shadow_rows.nd) (js_cons (js_set (i := 7) ((je_ix (je_fn O__law_undone (hr.mono (by decide)) (ja_cons (je_ix (je_v 1) (je_v 6)) (ja_nil))) (je_v 4)).jx) sc__law_shadow_rows.nd rfl (by first | exact Or.inl rfl | exact Or.inr rfl)) (js_one (js_expr (je_app (i := 5) rfl (by first | exact Or.inl rfl | exact Or.inr (Or.inl rfl) | exact Or.inr (Or.inr rfl)) (je_ix (je_ix (je_v 1) (je_v 4)) (je_ix (je_ix (je_v 2) (je_v 7)) (je_v 6)))))))) (js_one (js_expr (je_app (i := 3) rfl (by first | exact Or.inl rfl | exact Or.inr (Or.inl rfl) | exact Or.inr (Or.inr rfl)) (je_tupleO B.tuple (i := 5) rfl (by first | exact Or.inl rfl | exact Or.inr (Or.inl rfl) | exact Or.inr (Or.inr rfl))))))))) (js_one (js_ret (je_tupleO B.tuple (i := 3) rfl (by first | exact Or.inl rfl | exact Or.inr (Or.inl rfl) | exact Or.inr (Or.inr rfl))))))
theorem sc__law_is_shadow : FnScope N__law_is_shadow P__law_is_shadow (defScope st__law_is_shadow) := ⟨rfl, rfl, rfl, by decide +kernel, rfl, by decide +kernel, by decide +kernel⟩
theorem bs__law_is_shadow : BindsAs "_law_is_shadow" st__law_is_shadow P__law_is_shadow := fun _ _ _ _ _ _ us hl => match us, hl with | [_], _ => rfl
theorem j__law_is_shadow (B : Bl mg) : BodyCx P w K mg base "_law_is_shadow" st__law_is_shadow N__law_is_shadow 0 fun X => JSs X (defBody st__law_is_shadow) g__law_is_shadow := fun f cdv A outer s H E hr => js_cons (js_set (i := 1) ((je_callB calld_len B.len (by decide +kernel) (ja_cons (je_v 0) (ja_nil))).jx) sc__law_is_shadow.nd rfl (by first | exact Or.inl rfl | exact Or.inr rfl)) (js_cons (js_if (jt_cmp (opd_ne hr.units) ((jl_lc (own := [("_law_row", 2)]) rfl sc__law_is_shadow.nd (ji_sq (je_v 0)) (blkOk_by (by rfl)) (fun _ _ _ _ _ => jg_n 2 sc__law_is_shadow.nd) (fun _ _ _ _ _ => jts_one (jt_cmp opd_lt (je_lenSet2 rfl B.len B.set (je_v 2)) (je_v 1) (nomark _))) (fun _ _ _ _ _ => je_v 2)).je) ((jl_lst (ja_nil)).je) (nomark _)) (js_one (js_ret (je_bl))) (js_nil)) (js_cons (js_for (vs := [2]) rfl (ji_sq (je_v 0)) (jg_n 2 sc__law_is_shadow.nd) (js_one (js_for (vs := [3]) rfl (ji_r1 B.range (je_v 1)) (jg_n 3 sc__law_is_shadow.nd) (js_one (js_for (vs := [4]) rfl (ji_r1 B.range (je_v 1)) (jg_n 4 sc__law_is_shadow.nd) (js_one (js_if (jt_cmp (opd_ne hr.units) (je_ix (je_v 2) (je_ix (je_ix (je_v 0) (je_v 3)) (je_v 4))) (je_ix (je_ix (je_v 0) (je_ix (je_v 2) (je_v 3))) (je_ix (je_v 2) (je_v 4))) (nomark _)) (js_one (js_ret (je_bl))) (js_nil)))))))) (js_one (js_ret (je_bl)))))
theorem sc__law_shows : FnScope N__law_shows P__law_shows (defScope st__law_shows) := ⟨rfl, rfl, rfl, by decide +kernel, rfl, by decide +kernel, by decide +kernel⟩
theorem bs__law_shows : BindsAs "_law_shows" st__law_shows P__law_shows := fun _ _ _ _ _ _ us hl => match us, hl with | [_, _], _ => rfl
theorem j__law_shows (B : Bl mg) (O__law_is_shadow : Ok P w K mg base "_law_is_shadow" P__law_is_shadow 1 (spD K 1 S__law_is_shadow)) : BodyCx P w K mg base "_law_shows" st__law_shows N__law_shows 1 fun X => JSs X (defBody st__law_shows) g__law_shows := fun f cdv A outer s H E hr => js_cons (js_set (i := 2) ((je_callB calld_len B.len (by decide +kernel) (ja_cons (je_v 0) (ja_nil))).jx) sc__law_shows.nd rfl (by first | exact Or.inl rfl | exact Or.inr rfl)) (js_cons (js_if ((jw_or (jt_not (jt_val (je_isi (tn := "tuple") B.isinstance B.tuple (by decide +kernel) (je_v 1)))) (jw_or (jt_cmp (opd_eq hr.units) (je_v 1) (je_tup (ja_nil)) (nomark _)) (jw_or1 (jt_not (jt_val (je_isi (tn := "str") B.isinstance B.str (by decide +kernel) (je_ix (je_v 1) (je_int)))))))).jt) (js_one (js_ret (je_bl))) (js_nil)) (js_cons (js_if (jt_cmp (opd_eq hr.units) (je_v 1) (je_tup (ja_cons (je_str) (ja_nil))) (nomark _)) (js_one (js_ret (je_fn O__law_is_shadow (hr.mono (by decide)) (ja_cons (je_v 0) (ja_nil))))) (js_nil)) (js_cons (js_if ((jw_or (jt_cmp (opd_ne hr.units) (je_callB calld_len B.len (by decide +kernel) (ja_cons (je_v 1) (ja_nil))) (je_int) (nomark _)) (jw_or1 (jt_cmp (opd_ne hr.units) ((jl_lc (own := [("_law_one", 7)]) rfl sc__law_shows.nd (ji_sq (je_sl (je_v 1) (jo_some (je_int)) (jo_none))) (blkOk_by (by rfl)) (fun _ _ _ _ _ => jg_n 7 sc__law_shows.nd) (fun _ _ _ _ _ => jts_one (jt_not (jt_val (je_isi (tn := "int") B.isinstance B.int (by decide +kernel) (je_v 7))))) (fun _ _ _ _ _ => je_v 7)).je) ((jl_lst (ja_nil)).je) (nomark _)))).jt) (js_one (js_ret (je_bl))) (js_nil)) (js_cons (js_if (jt_cmp (opd_ne hr.units) ((jl_lc (own := [("_law_one", 7)]) rfl sc__law_shows.nd (ji_sq (je_sl (je_v 1) (jo_some (je_int)) (jo_none))) (blkOk_by (by rfl)) (fun _ _ _ _ _ => jg_n 7 sc__law_shows.nd) (fun _ _ _ _ _ => jts_one (jt_val (je_isi (tn := "bool") B.isinstance B.bool (by decide +kernel) (je_v 7)))) (fun _ _ _ _ _ => je_v 7)).je) ((jl_lst (ja_nil)).je) (nomark _)) (js_one (js_ret (je_bl))) (js_nil)) (js_cons (js_asg (vs := [3, 4, 5]) (je_sl (je_v 1) (jo_some (je_int)) (jo_none)) (jg_tup rfl (jgs_cons (jg_n 3 sc__law_shows.nd) (jgs_cons (jg_n 4 sc__law_shows.nd) (jgs_cons (jg_n 5 sc__law_shows.nd) (jgs_nil)))))) (js_cons (js_if (jt_cmp (opd_ne hr.units) ((jl_lc (own := [("_law_one", 7)]) rfl sc__law_shows.nd (ji_sq (je_tup (ja_cons (je_v 3) (ja_cons (je_v 4) (ja_cons (je_v 5) (ja_nil)))))) (blkOk_by (by rfl)) (fun _ _ _ _ _ => jg_n 7 sc__law_shows.nd) (fun _ _ _ _ _ => jts_one (jt_not (jt_chain opd_le opd_lt (je_int) (je_v 7) (je_v 2)))) (fun _ _ _ _ _ => je_v 7)).je) ((jl_lst (ja_nil)).je) (nomark _)) (js_one (js_ret (je_bl))) (js_nil)) (js_cons (js_set (i := 6) ((je_ix (je_v 0) (je_v 3)).jx) sc__law_shows.nd rfl (by first | exact Or.inl rfl | exact Or.inr rfl)) (js_cons (js_if (jt_cmp (opd_eq hr.units) (je_ix (je_v 1) (je_int)) (je_str) (nomark _)) (js_one (js_ret (je_and (je_cmp opd_lt (je_v 4) (je_v 5) (nomark _)) (je_one (je_cmp (opd_eq hr.units) (je_ix (je_v 6) (je_v 4)) (je_ix (je_v 6) (je_v 5)) (nomark _)))))) (js_nil)) (js_one (js_ret (je_and (je_cmp (opd_eq hr.units) (je_ix (je_v 1) (je_int)) (je_str) (nomark _)) (je_one (je_cmp (opd_ne hr.units) (je_ix (je_v 6) (je_ix (je_ix (je_v 0) (je_v 4)) (je_v 5))) (je_ix (je_ix (je_v 0) (je_ix (je_v 6) (je_v 4))) (je_ix (je_v 6) (je_v 5))) (nomark _))))))))))))))
theorem sc__law_first_paper : FnScope N__law_first_paper P__law_first_paper (defScope st__law_first_paper) := ⟨rfl, rfl, rfl, by decide +kernel, rfl, by decide +kernel, by decide +kernel⟩
theorem bs__law_first_paper : BindsAs "_law_first_paper" st__law_first_paper P__law_first_paper := fun _ _ _ _ _ _ us hl => match us, hl with | [_], _ => rfl
theorem j__law_first_paper (B : Bl mg) (O__law_shows : Ok P w K mg base "_law_shows" P__law_shows 2 (spD K 2 S__law_shows)) : BodyCx P w K mg base "_law_first_paper" st__law_first_paper N__law_first_paper 2 fun X => JSs X (defBody st__law_first_paper) g__law_first_paper := fun f cdv A outer s H E hr => js_cons (js_set (i := 1) (((jl_rg rfl B.list (jr_1 B.range (je_callB calld_len B.len (by decide +kernel) (ja_cons (je_v 0) (ja_nil))))).je).jx) sc__law_first_paper.nd rfl (by first | exact Or.inl rfl | exact Or.inr rfl)) (js_cons (js_for (vs := [2]) rfl (ji_sq (je_tup (ja_cons (je_str) (ja_cons (je_str) (ja_nil))))) (jg_n 2 sc__law_first_paper.nd) (js_one (js_for (vs := [3]) rfl (ji_sq (je_v 1)) (jg_n 3 sc__law_first_paper.nd) (js_one (js_for (vs := [4]) rfl (ji_sq (je_v 1)) (jg_n 4 sc__law_first_paper.nd) (js_one (js_for (vs := [5]) rfl (ji_sq (je_v 1)) (jg_n 5 sc__law_first_paper.nd) (js_one (js_if (jt_val (je_fn O__law_shows (hr.mono (by decide)) (ja_cons (je_v 0) (ja_cons (je_tup (ja_cons (je_v 2) (ja_cons (je_v 3) (ja_cons (je_v 4) (ja_cons (je_v 5) (ja_nil)))))) (ja_nil))))) (js_one (js_ret (je_tup (ja_cons (je_v 2) (ja_cons (je_v 3) (ja_cons (je_v 4) (ja_cons (je_v 5) (ja_nil)))))))) (js_nil)))))))))) (js_one (js_ret (je_tup (ja_cons (je_str) (ja_nil))))))
theorem sc__law_values : FnScope N__law_values P__law_values (defScope st__law_values) := ⟨rfl, rfl, rfl, by decide +kernel, rfl, by decide +kernel, by decide +kernel⟩
theorem bs__law_values : BindsAs "_law_values" st__law_values P__law_values := fun _ _ _ _ _ _ us hl => match us, hl with | [_, _, _], _ => rfl
theorem j__law_values (B : Bl mg) (O__law_roll : Ok P w K mg base "_law_roll" P__law_roll 1 (spM K 2 S__law_roll)) : BodyCx P w K mg base "_law_values" st__law_values N__law_values 1 fun X => JSs X (defBody st__law_values) g__law_values := fun f cdv A outer s H E hr => js_cons (js_par (i := 3) (j := 4) rfl sc__law_values.nd rfl rfl (by decide) rfl rfl ((je_callB calld_len B.len (by decide +kernel) (ja_cons (je_v 1) (ja_nil))).jx) (((jl_lst (ja_cons (je_v 2) (ja_cons ((jl_list B.list (je_v 2)).je) (ja_cons (je_bin opd_add (je_v 2) (je_tup (ja_cons (je_int) (ja_nil)))) (ja_cons (je_sl (je_v 2) (jo_some (je_int)) (jo_none)) (ja_cons (je_non) (ja_cons (je_tup (ja_nil)) (ja_cons (je_str) (ja_cons (je_tup (ja_cons (je_str) (ja_cons (je_int) (ja_nil)))) (ja_cons (je_tup (ja_cons (je_str) (ja_nil))) (ja_cons (je_tup (ja_cons (je_tup (ja_nil)) (ja_cons (je_int) (ja_cons (je_int) (ja_cons (je_int) (ja_nil)))))) (ja_nil)))))))))))).je).jx) rfl) (js_cons (js_for (vs := [5]) rfl (ji_r1 B.range (je_int)) (jg_n 5 sc__law_values.nd) (js_cons (js_par3 (i := 6) (j := 7) (k := 8) rfl sc__law_values.nd rfl rfl rfl (by decide) (by decide) (by decide) rfl rfl rfl (je_fnM O__law_roll (hr.mono (by decide)) (i := 0) rfl (by first | exact Or.inl rfl | exact Or.inr (Or.inl rfl) | exact Or.inr (Or.inr rfl)) (ja_cons (je_v 3) (ja_nil))) (je_fnM O__law_roll (hr.mono (by decide)) (i := 0) rfl (by first | exact Or.inl rfl | exact Or.inr (Or.inl rfl) | exact Or.inr (Or.inr rfl)) (ja_cons (je_v 3) (ja_nil))) ((je_fnM O__law_roll (hr.mono (by decide)) (i := 0) rfl (by first | exact Or.inl rfl | exact Or.inr (Or.inl rfl) | exact Or.inr (Or.inr rfl)) (ja_cons (je_v 3) (ja_nil))).jx) rfl) (js_cons (js_set (i := 4) ((je_bin opd_add (je_v 4) ((jl_lst (ja_cons (je_tup (ja_cons (je_str) (ja_cons (je_v 6) (ja_cons (je_v 7) (ja_cons (je_v 8) (ja_nil)))))) (ja_cons (je_tup (ja_cons (je_str) (ja_cons (je_v 6) (ja_cons (je_v 7) (ja_cons (je_v 8) (ja_nil)))))) (ja_cons (je_tup (ja_cons (je_str) (ja_cons (je_v 6) (ja_cons (je_v 7) (ja_cons (je_v 8) (ja_nil)))))) (ja_cons (je_tup (ja_cons (je_str) (ja_cons (je_v 6) (ja_cons (je_v 7) (ja_nil))))) (ja_cons (je_tup (ja_cons (je_str) (ja_cons (je_v 6) (ja_cons (je_v 7) (ja_cons (je_v 3) (ja_nil)))))) (ja_nil))))))).je)).jx) sc__law_values.nd rfl (by first | exact Or.inl rfl | exact Or.inr rfl)) (js_cons (js_set (i := 4) ((je_bin opd_add (je_v 4) ((jl_lst (ja_cons (je_tup (ja_cons (je_str) (ja_cons (je_v 6) (ja_cons (je_v 7) (ja_cons (je_neg (je_int)) (ja_nil)))))) (ja_cons (je_tup (ja_cons (je_str) (ja_cons (je_v 6) (ja_cons (je_cmp (opd_eq hr.units) (je_v 7) (je_int) (nomark _)) (ja_cons (je_v 8) (ja_nil)))))) (ja_cons (je_tup (ja_cons (je_str) (ja_cons (je_cmp (opd_eq hr.units) (je_v 6) (je_int) (nomark _)) (ja_cons (je_v 7) (ja_cons (je_v 8) (ja_nil)))))) (ja_cons (je_tup (ja_cons (je_str) (ja_cons (je_v 6) (ja_cons (je_v 7) (ja_cons (je_bin opd_pow (je_int) (je_int)) (ja_nil)))))) (ja_nil)))))).je)).jx) sc__law_values.nd rfl (by first | exact Or.inl rfl | exact Or.inr rfl)) (js_one (js_set (i := 4) ((je_bin opd_add (je_v 4) ((jl_lst (ja_cons ((jl_lst (ja_cons (je_str) (ja_cons (je_v 6) (ja_cons (je_v 7) (ja_cons (je_v 8) (ja_nil)))))).je) (ja_cons (je_tup (ja_cons (je_str) (ja_cons (je_v 6) (ja_cons (je_v 8) (ja_cons (je_v 7) (ja_nil)))))) (ja_cons (je_tup (ja_cons (je_str) (ja_cons (je_v 6) (ja_cons (je_tup (ja_cons (je_v 7) (ja_nil))) (ja_cons (je_v 8) (ja_nil)))))) (ja_cons (je_tup (ja_cons (je_str) (ja_cons (je_callTy calld_strI B.str (by decide +kernel) (ja_cons (je_v 6) (ja_nil))) (ja_cons (je_v 7) (ja_cons (je_v 8) (ja_nil)))))) (ja_nil)))))).je)).jx) sc__law_values.nd rfl (by first | exact Or.inl rfl | exact Or.inr rfl))))))) (js_one (js_ret (je_v 4))))
theorem sc_is_shadow_paper : FnScope N_is_shadow_paper P_is_shadow_paper (defScope st_is_shadow_paper) := ⟨rfl, rfl, rfl, by decide +kernel, rfl, by decide +kernel, by decide +kernel⟩
theorem bs_is_shadow_paper : BindsAs "is_shadow_paper" st_is_shadow_paper P_is_shadow_paper := fun _ _ _ _ _ _ us hl => match us, hl with | [_, _], _ => rfl
theorem j_is_shadow_paper (B : Bl mg) (O__check_rows : Ok P w K mg base "_check_rows" P__check_rows 3 (spD K 1 S__check_rows)) (O_is_told : Ok P w K mg base "is_told" P_is_told 4 (spD K 4 S_is_told)) (O__breaks_shadow : Ok P w K mg base "_breaks_shadow" P__breaks_shadow 1 (spD K 3 S__breaks_shadow)) (O_is_same : Ok P w K mg base "is_same" P_is_same 3 (spD K 2 S_is_same)) (O__is_shadow : Ok P w K mg base "_is_shadow" P__is_shadow 4 (spD K 1 S__is_shadow)) : BodyCx P w K mg base "is_shadow_paper" st_is_shadow_paper N_is_shadow_paper 4 fun X => JSs X (defBody st_is_shadow_paper) g_is_shadow_paper := fun f cdv A outer s H E hr => js_cons (js_expr (je_fn O__check_rows (hr.mono (by decide)) (ja_cons (je_v 0) (ja_nil)))) (js_cons (js_for (vs := [2]) rfl (ji_sq (je_tup (ja_cons (je_str) (ja_cons (je_str) (ja_nil))))) (jg_n 2 sc_is_shadow_paper.nd) (js_one (js_if (jt_val (je_fn O_is_told (hr.mono (by decide)) (ja_cons (je_v 1) (ja_cons (je_v 2) (ja_cons (je_int) (ja_cons (je_callB calld_len B.len (by decide +kernel) (ja_cons (je_v 0) (ja_nil))) (ja_nil))))))) (js_one (js_ret (je_fn O__breaks_shadow (hr.mono (by decide)) (ja_cons (je_v 0) (ja_cons (je_v 2) (ja_cons (je_sl (je_v 1) (jo_some (je_int)) (jo_none)) (ja_nil))))))) (js_nil)))) (js_one (js_ret (je_and (je_fn O_is_same (hr.mono (by decide)) (ja_cons (je_v 1) (ja_cons (je_tup (ja_cons (je_str) (ja_nil))) (ja_nil)))) (je_one (je_fn O__is_shadow (hr.mono (by decide)) (ja_cons (je_v 0) (ja_nil))))))))
theorem sc__broken_paper : FnScope N__broken_paper P__broken_paper (defScope st__broken_paper) := ⟨rfl, rfl, rfl, by decide +kernel, rfl, by decide +kernel, by decide +kernel⟩
theorem bs__broken_paper : BindsAs "_broken_paper" st__broken_paper P__broken_paper := fun _ _ _ _ _ _ us hl => match us, hl with | [_], _ => rfl
theorem j__broken_paper (B : Bl mg) (O__breaks_shadow : Ok P w K mg base "_breaks_shadow" P__breaks_shadow 1 (spD K 3 S__breaks_shadow)) : BodyCx P w K mg base "_broken_paper" st__broken_paper N__broken_paper 1 fun X => JSs X (defBody st__broken_paper) g__broken_paper := fun f cdv A outer s H E hr => js_cons (js_set (i := 1) (jx_rng B.range (je_callB calld_len B.len (by decide +kernel) (ja_cons (je_v 0) (ja_nil)))) sc__broken_paper.nd rfl (by first | exact Or.inl rfl | exact Or.inr rfl)) (js_one (js_for (vs := [2]) rfl (ji_sq (je_tup (ja_cons (je_str) (ja_cons (je_str) (ja_nil))))) (jg_n 2 sc__broken_paper.nd) (js_one (js_for (vs := [3]) rfl (ji_sq (je_thr rfl sc__broken_paper.nd rfl (by decide) (by decide) (by first | exact Or.inl rfl | exact Or.inr (Or.inl rfl) | exact Or.inr (Or.inr rfl)) (blkOk_by (by rfl)) (fun _ _ _ _ _ => pe_var (i := 1) rfl (by first | exact Or.inl rfl | exact Or.inr (Or.inl rfl) | exact Or.inr (Or.inr rfl))) (fun _ _ _ _ _ => pe_var (i := 1) rfl (by first | exact Or.inl rfl | exact Or.inr (Or.inl rfl) | exact Or.inr (Or.inr rfl))) (fun _ _ _ _ _ => pg_name (i := 4) sc__broken_paper.nd rfl (Or.inl rfl)) (fun _ _ _ _ _ => pg_name (i := 5) sc__broken_paper.nd rfl (Or.inl rfl)) (fun _ _ _ _ _ => pg_name (i := 6) sc__broken_paper.nd rfl (Or.inl rfl)) (fun _ _ _ _ _ => pe_tup (pa_cons (pe_var (i := 4) rfl (by first | exact Or.inl rfl | exact Or.inr (Or.inl rfl) | exact Or.inr (Or.inr rfl))) (pa_cons (pe_var (i := 5) rfl (by first | exact Or.inl rfl | exact Or.inr (Or.inl rfl) | exact Or.inr (Or.inr rfl))) (pa_cons (pe_var (i := 6) rfl (by first | exact Or.inl rfl | exact Or.inr (Or.inl rfl) | exact Or.inr (Or.inr rfl))) pa_nil)))))) (jg_n 3 sc__broken_paper.nd) (js_one (js_if (jt_val (je_fn O__breaks_shadow (hr.mono (by decide)) (ja_cons (je_v 0) (ja_cons (je_v 2) (ja_cons (je_v 3) (ja_nil)))))) (js_one (js_ret (je_bin opd_add (je_tup (ja_cons (je_v 2) (ja_nil))) (je_v 3)))) (js_nil)))))))
theorem sc__law_dots_likenesses : FnScope N__law_dots_likenesses P__law_dots_likenesses (defScope st__law_dots_likenesses) := ⟨rfl, rfl, rfl, by decide +kernel, rfl, by decide +kernel, by decide +kernel⟩
theorem bs__law_dots_likenesses : BindsAs "_law_dots_likenesses" st__law_dots_likenesses P__law_dots_likenesses := fun _ _ _ _ _ _ us hl => match us, hl with | [_], _ => rfl
theorem j__law_dots_likenesses (B : Bl mg) (O__law_orders : Ok P w K mg base "_law_orders" P__law_orders 1 (spD K 1 S__law_orders)) (O__law_keeps_dots : Ok P w K mg base "_law_keeps_dots" P__law_keeps_dots 1 (spD K 2 S__law_keeps_dots)) : BodyCx P w K mg base "_law_dots_likenesses" st__law_dots_likenesses N__law_dots_likenesses 1 fun X => JSs X (defBody st__law_dots_likenesses) g__law_dots_likenesses := fun f cdv A outer s H E hr => js_one (js_ret ((jl_lc (own := [("_law_move", 1)]) rfl sc__law_dots_likenesses.nd (ji_sq (je_fn O__law_orders (hr.mono (by decide)) (ja_cons (je_callB calld_len B.len (by decide +kernel) (ja_cons (je_v 0) (ja_nil))) (ja_nil)))) (blkOk_by (by rfl)) (fun _ _ _ _ _ => jg_n 1 sc__law_dots_likenesses.nd) (fun _ _ _ _ _ => jts_one (jt_val (je_fn O__law_keeps_dots (hr.mono (by decide)) (ja_cons (je_v 0) (ja_cons (je_v 1) (ja_nil)))))) (fun _ _ _ _ _ => je_v 1)).je))
theorem sc__law_quiet_dots : FnScope N__law_quiet_dots P__law_quiet_dots (defScope st__law_quiet_dots) := ⟨rfl, rfl, rfl, by decide +kernel, rfl, by decide +kernel, by decide +kernel⟩
theorem bs__law_quiet_dots : BindsAs "_law_quiet_dots" st__law_quiet_dots P__law_quiet_dots := fun _ _ _ _ _ _ us hl => match us, hl with | [_, _, _], _ => rfl
theorem j__law_quiet_dots (B : Bl mg) (O__law_small_dots : Ok P w K mg base "_law_small_dots" P__law_small_dots 4 (spM K 2 S__law_small_dots)) (O__law_roll : Ok P w K mg base "_law_roll" P__law_roll 1 (spM K 2 S__law_roll)) (O__law_product_dots : Ok P w K mg base "_law_product_dots" P__law_product_dots 2 (spD K 2 S__law_product_dots)) (O__law_pick : Ok P w K mg base "_law_pick" P__law_pick 2 (spM K 2 S__law_pick)) (O__law_dots_likenesses : Ok P w K mg base "_law_dots_likenesses" P__law_dots_likenesses 2 (spD K 1 S__law_dots_likenesses)) (O__law_union_dots : Ok P w K mg base "_law_union_dots" P__law_union_dots 1 (spD K 4 S__law_union_dots)) (O__law_renamed_dots : Ok P w K mg base "_law_renamed_dots" P__law_renamed_dots 2 (spD K 2 S__law_renamed_dots)) (O__law_drawn_move : Ok P w K mg base "_law_drawn_move" P__law_drawn_move 3 (spM K 2 S__law_drawn_move)) : BodyCx P w K mg base "_law_quiet_dots" st__law_quiet_dots N__law_quiet_dots 4 fun X => JSs X (defBody st__law_quiet_dots) g__law_quiet_dots := fun f cdv A outer s H E hr => js_cons (js_set (i := 3) ((je_fnM O__law_small_dots (hr.mono (by decide)) (i := 0) rfl (by first | exact Or.inl rfl | exact Or.inr (Or.inl rfl) | exact Or.inr (Or.inr rfl)) (ja_cons (je_v 2) (ja_nil))).jx) sc__law_quiet_dots.nd rfl (by first | exact Or.inl rfl | exact Or.inr rfl)) (js_cons (js_if ((jw_and (jt_cmp opd_gt (je_v 2) (je_int) (nomark _)) (jw_and1 (jt_cmp (opd_eq hr.units) (je_fnM O__law_roll (hr.mono (by decide)) (i := 0) rfl (by first | exact Or.inl rfl | exact Or.inr (Or.inl rfl) | exact Or.inr (Or.inr rfl)) (ja_cons (je_int) (ja_nil))) (je_int) (nomark _)))).jt) (js_one (js_set (i := 3) ((je_fn O__law_product_dots (hr.mono (by decide)) (ja_cons ((jl_lst (ja_cons (je_tup (ja_cons (je_int) (ja_cons (je_int) (ja_nil)))) (ja_cons (je_tup (ja_cons (je_int) (ja_cons (je_int) (ja_nil)))) (ja_nil)))).je) (ja_cons (je_fnM O__law_pick (hr.mono (by decide)) (i := 0) rfl (by first | exact Or.inl rfl | exact Or.inr (Or.inl rfl) | exact Or.inr (Or.inr rfl)) (ja_cons ((jl_lst (ja_cons ((jl_lst (ja_cons (je_tup (ja_cons (je_int) (ja_cons (je_int) (ja_nil)))) (ja_cons (je_tup (ja_cons (je_int) (ja_cons (je_int) (ja_nil)))) (ja_nil)))).je) (ja_cons ((jl_lst (ja_cons (je_tup (ja_cons (je_int) (ja_cons (je_int) (ja_nil)))) (ja_cons (je_tup (ja_cons (je_int) (ja_cons (je_int) (ja_nil)))) (ja_nil)))).je) (ja_cons ((jl_lst (ja_cons (je_tup (ja_cons (je_int) (ja_nil))) (ja_nil))).je) (ja_nil))))).je) (ja_nil))) (ja_nil)))).jx) sc__law_quiet_dots.nd rfl (by first | exact Or.inl rfl | exact Or.inr rfl))) (js_nil)) (js_cons (js_for (vs := [4]) rfl (ji_r1 B.range (je_v 2)) (jg_n 4 sc__law_quiet_dots.nd) (js_cons (js_set (i := 5) ((je_bin opd_sub (je_v 2) (je_callB calld_len B.len (by decide +kernel) (ja_cons (je_v 3) (ja_nil)))).jx) sc__law_quiet_dots.nd rfl (by first | exact Or.inl rfl | exact Or.inr rfl)) (js_one (js_if ((jw_and (jt_cmp opd_gt (je_v 5) (je_int) (nomark _)) (jw_and1 ((jw_or (jt_cmp opd_lt (je_callB calld_len B.len (by decide +kernel) (ja_cons (je_v 3) (ja_nil))) (je_v 1) (nomark _)) (jw_or1 (jt_cmp (opd_eq hr.units) (je_fnM O__law_roll (hr.mono (by decide)) (i := 0) rfl (by first | exact Or.inl rfl | exact Or.inr (Or.inl rfl) | exact Or.inr (Or.inr rfl)) (ja_cons (je_int) (ja_nil))) (je_int) (nomark _)))).jt))).jt) (js_cons (js_set (i := 6) ((je_fnM O__law_small_dots (hr.mono (by decide)) (i := 0) rfl (by first | exact Or.inl rfl | exact Or.inr (Or.inl rfl) | exact Or.inr (Or.inr rfl)) (ja_cons (je_v 5) (ja_nil))).jx) sc__law_quiet_dots.nd rfl (by first | exact Or.inl rfl | exact Or.inr rfl)) (js_cons (js_set (i := 7) ((je_tupRg rfl B.tuple (jr_1 B.range (je_callB calld_len B.len (by decide +kernel) (ja_cons (je_v 6) (ja_nil))))).jx) sc__law_quiet_dots.nd rfl (by first | exact Or.inl rfl | exact Or.inr rfl)) (js_cons (js_set (i := 8) ((je_tupRg rfl B.tuple (jr_1 B.range (je_callB calld_len B.len (by decide +kernel) (ja_cons (je_v 3) (ja_nil))))).jx) sc__law_quiet_dots.nd rfl (by first | exact Or.inl rfl | exact Or.inr rfl)) (js_cons (js_if ((jw_and (jt_cmp opd_lt (je_callB calld_len B.len (by decide +kernel) (ja_cons (je_v 6) (ja_nil))) (je_int) (nomark _)) (jw_and1 (jt_cmp opd_lt (je_callB calld_len B.len (by decide +kernel) (ja_cons (je_v 3) (ja_nil))) (je_int) (nomark _)))).jt) (js_one (js_par (i := 7) (j := 8) rfl sc__law_quiet_dots.nd rfl rfl (by decide) rfl rfl ((je_fnM O__law_pick (hr.mono (by decide)) (i := 0) rfl (by first | exact Or.inl rfl | exact Or.inr (Or.inl rfl) | exact Or.inr (Or.inr rfl)) (ja_cons (je_fn O__law_dots_likenesses (hr.mono (by decide)) (ja_cons (je_v 6) (ja_nil))) (ja_nil))).jx) ((je_fnM O__law_pick (hr.mono (by decide)) (i := 0) rfl (by first | exact Or.inl rfl | exact Or.inr (Or.inl rfl) | exact Or.inr (Or.inr rfl)) (ja_cons (je_fn O__law_dots_likenesses (hr.mono (by decide)) (ja_cons (je_v 3) (ja_nil))) (ja_nil))).jx) rfl)) (js_nil)) (js_one (js_set (i := 3) ((je_fn O__law_union_dots (hr.mono (by decide)) (ja_cons (je_v 3) (ja_cons (je_v 6) (ja_cons (je_v 7) (ja_cons (je_v 8) (ja_nil)))))).jx) sc__law_quiet_dots.nd rfl (by first | exact Or.inl rfl | exact Or.inr rfl))))))) (js_nil))))) (js_one (js_ret (je_fn O__law_renamed_dots (hr.mono (by decide)) (ja_cons (je_v 3) (ja_cons (je_fnM O__law_drawn_move (hr.mono (by decide)) (i := 0) rfl (by first | exact Or.inl rfl | exact Or.inr (Or.inl rfl) | exact Or.inr (Or.inr rfl)) (ja_cons (je_callB calld_len B.len (by decide +kernel) (ja_cons (je_v 3) (ja_nil))) (ja_nil))) (ja_nil))))))))
theorem sc__law_fair_rows : FnScope N__law_fair_rows P__law_fair_rows (defScope st__law_fair_rows) := ⟨rfl, rfl, rfl, by decide +kernel, rfl, by decide +kernel, by decide +kernel⟩
theorem bs__law_fair_rows : BindsAs "_law_fair_rows" st__law_fair_rows P__law_fair_rows := fun _ _ _ _ _ _ us hl => match us, hl with | [_, _, _], _ => rfl
theorem j__law_fair_rows (B : Bl mg) (O__law_roll : Ok P w K mg base "_law_roll" P__law_roll 1 (spM K 2 S__law_roll)) (O__law_drawn_move : Ok P w K mg base "_law_drawn_move" P__law_drawn_move 3 (spM K 2 S__law_drawn_move)) (O__law_power : Ok P w K mg base "_law_power" P__law_power 2 (spD K 2 S__law_power)) (O__law_pick : Ok P w K mg base "_law_pick" P__law_pick 2 (spM K 2 S__law_pick)) (O__law_renamed_rows : Ok P w K mg base "_law_renamed_rows" P__law_renamed_rows 2 (spD K 2 S__law_renamed_rows)) (O__law_rows_of_dots : Ok P w K mg base "_law_rows_of_dots" P__law_rows_of_dots 2 (spD K 1 S__law_rows_of_dots)) (O__law_quiet_dots : Ok P w K mg base "_law_quiet_dots" P__law_quiet_dots 5 (spM K 3 S__law_quiet_dots)) : BodyCx P w K mg base "_law_fair_rows" st__law_fair_rows N__law_fair_rows 5 fun X => JSs X (defBody st__law_fair_rows) g__law_fair_rows := fun f cdv A outer s H E hr => js_cons (js_parT (i := 3) (j := 4) rfl sc__law_fair_rows.nd rfl rfl (by decide) (by first | exact Or.inl rfl | exact Or.inr rfl) (by first | exact Or.inl rfl | exact Or.inr rfl) ((je_fnM O__law_roll (hr.mono (by decide)) (i := 0) rfl (by first | exact Or.inl rfl | exact Or.inr (Or.inl rfl) | exact Or.inr (Or.inr rfl)) (ja_cons (je_int) (ja_nil))).jx) ((je_bin opd_add (je_v 1) (je_fnM O__law_roll (hr.mono (by decide)) (i := 0) rfl (by first | exact Or.inl rfl | exact Or.inr (Or.inl rfl) | exact Or.inr (Or.inr rfl)) (ja_cons (je_bin opd_add (je_bin opd_sub (je_v 2) (je_v 1)) (je_int)) (ja_nil)))).jx)) (js_cons (js_if (jt_cmp (opd_eq hr.units) (je_v 3) (je_int) (nomark _)) (js_cons (js_set (i := 5) ((je_fnM O__law_drawn_move (hr.mono (by decide)) (i := 0) rfl (by first | exact Or.inl rfl | exact Or.inr (Or.inl rfl) | exact Or.inr (Or.inr rfl)) (ja_cons (je_v 4) (ja_nil))).jx) sc__law_fair_rows.nd rfl (by first | exact Or.inl rfl | exact Or.inr rfl)) (js_cons (js_parT (i := 6) (j := 7) rfl sc__law_fair_rows.nd rfl rfl (by decide) (by first | exact Or.inl rfl | exact Or.inr rfl) (by first | exact Or.inl rfl | exact Or.inr rfl) ((je_fn O__law_power (hr.mono (by decide)) (ja_cons (je_v 5) (ja_cons (je_fnM O__law_roll (hr.mono (by decide)) (i := 0) rfl (by first | exact Or.inl rfl | exact Or.inr (Or.inl rfl) | exact Or.inr (Or.inr rfl)) (ja_cons (je_int) (ja_nil))) (ja_nil)))).jx) ((je_fn O__law_power (hr.mono (by decide)) (ja_cons (je_v 5) (ja_cons (je_fnM O__law_roll (hr.mono (by decide)) (i := 0) rfl (by first | exact Or.inl rfl | exact Or.inr (Or.inl rfl) | exact Or.inr (Or.inr rfl)) (ja_cons (je_int) (ja_nil))) (ja_nil)))).jx)) (js_one (js_ret (je_callTy calld_tuple B.tuple (by decide +kernel) (ja_cons ((jl_lc (own := [("_law_x", 11)]) rfl sc__law_fair_rows.nd (ji_r1 B.range (je_v 4)) (blkOk_by (by rfl)) (fun _ _ _ _ _ => jg_n 11 sc__law_fair_rows.nd) (fun _ _ _ _ _ => jts_nil) (fun _ _ _ _ _ => je_callTy calld_tuple B.tuple (by decide +kernel) (ja_cons ((jl_lc (own := [("_law_y", 13)]) rfl sc__law_fair_rows.nd (ji_r1 B.range (je_v 4)) (blkOk_by (by rfl)) (fun _ _ _ _ _ => jg_n 13 sc__law_fair_rows.nd) (fun _ _ _ _ _ => jts_nil) (fun _ _ _ _ _ => je_tup (ja_cons (je_ix (je_v 6) (je_v 13)) (ja_cons (je_ix (je_v 7) (je_v 11)) (ja_nil))))).je) (ja_nil)))).je) (ja_nil))))))) (js_nil)) (js_cons (js_if (jt_cmp (opd_eq hr.units) (je_v 3) (je_int) (nomark _)) (js_cons (js_set (i := 8) ((je_fnM O__law_pick (hr.mono (by decide)) (i := 0) rfl (by first | exact Or.inl rfl | exact Or.inr (Or.inl rfl) | exact Or.inr (Or.inr rfl)) (ja_cons ((jl_lst (ja_cons (je_neg (je_int)) (ja_cons (je_neg (je_int)) (ja_cons (je_int) (ja_cons (je_int) (ja_nil)))))).je) (ja_nil))).jx) sc__law_fair_rows.nd rfl (by first | exact Or.inl rfl | exact Or.inr rfl)) (js_cons (js_set (i := 8) ((je_if ((jw_or (jt_cmp opd_lt (je_v 8) (je_int) (nomark _)) (jw_or1 (jt_cmp (opd_eq hr.units) (je_bin opd_mod (je_v 4) (je_int)) (je_int) (nomark _)))).jt) (je_v 8) (je_neg (je_int))).jx) sc__law_fair_rows.nd rfl (by first | exact Or.inl rfl | exact Or.inr rfl)) (js_cons (js_lcO (own := [("_law_x", 11)]) rfl sc__law_fair_rows.nd (i := 9) rfl rfl (sw_true rfl rfl rfl (by decide +kernel)) (ji_r1 B.range (je_v 4)) (blkOk_by (by rfl)) (fun _ _ _ _ _ => jg_n 11 sc__law_fair_rows.nd) (fun _ _ _ _ _ => jts_nil) (fun _ _ _ _ _ => je_callTy calld_tuple B.tuple (by decide +kernel) (ja_cons ((jl_lc (own := [("_law_y", 13)]) rfl sc__law_fair_rows.nd (ji_r1 B.range (je_v 4)) (blkOk_by (by rfl)) (fun _ _ _ _ _ => jg_n 13 sc__law_fair_rows.nd) (fun _ _ _ _ _ => jts_nil) (fun _ _ _ _ _ => je_tup (ja_cons (je_bin opd_mod (je_callTy calld_int B.int (by decide +kernel) (ja_cons (je_bin opd_sub (je_bin opd_add (je_v 11) (je_bin opd_mulA (je_v 8) (je_v 13))) (je_bin opd_mulA (je_v 8) (je_v 11))) (ja_nil))) (je_v 4)) (ja_cons (je_v 11) (ja_nil))))).je) (ja_nil)))) (js_one (js_ret (je_fn O__law_renamed_rows (hr.mono (by decide)) (ja_cons (je_tupleO B.tuple (i := 9) rfl (by first | exact Or.inl rfl | exact Or.inr (Or.inl rfl) | exact Or.inr (Or.inr rfl))) (ja_cons (je_fnM O__law_drawn_move (hr.mono (by decide)) (i := 0) rfl (by first | exact Or.inl rfl | exact Or.inr (Or.inl rfl) | exact Or.inr (Or.inr rfl)) (ja_cons (je_v 4) (ja_nil))) (ja_nil))))))))) (js_nil)) (js_cons (js_if ((jw_and (jt_cmp (opd_eq hr.units) (je_v 3) (je_int) (nomark _)) (jw_and1 (jt_cmp opd_gt (je_v 2) (je_int) (nomark _)))).jt) (jss_never) (js_nil)) (js_cons (js_if ((jw_and (jt_cmp (opd_eq hr.units) (je_v 3) (je_int) (nomark _)) (jw_and1 (jt_cmp opd_gt (je_v 4) (je_int) (nomark _)))).jt) (js_cons (js_lcO (own := [("_law_x", 11)]) rfl sc__law_fair_rows.nd (i := 9) rfl rfl (sw_true rfl rfl rfl (by decide +kernel)) (ji_r1 B.range (je_v 4)) (blkOk_by (by rfl)) (fun _ _ _ _ _ => jg_n 11 sc__law_fair_rows.nd) (fun _ _ _ _ _ => jts_nil) (fun _ _ _ _ _ => je_callTy calld_tuple B.tuple (by decide +kernel) (ja_cons ((jl_lc (own := [("_law_y", 13)]) rfl sc__law_fair_rows.nd (ji_r1 B.range (je_v 4)) (blkOk_by (by rfl)) (fun _ _ _ _ _ => jg_n 13 sc__law_fair_rows.nd) (fun _ _ _ _ _ => jts_nil) (fun _ _ _ _ _ => je_tup (ja_cons (je_v 13) (ja_cons (je_bin opd_mod (je_callTy calld_int B.int (by decide +kernel) (ja_cons (je_bin opd_sub (je_bin opd_mulA (je_int) (je_v 13)) (je_v 11)) (ja_nil))) (je_v 4)) (ja_nil))))).je) (ja_nil)))) (js_one (js_ret (je_fn O__law_renamed_rows (hr.mono (by decide)) (ja_cons (je_tupleO B.tuple (i := 9) rfl (by first | exact Or.inl rfl | exact Or.inr (Or.inl rfl) | exact Or.inr (Or.inr rfl))) (ja_cons (je_fnM O__law_drawn_move (hr.mono (by decide)) (i := 0) rfl (by first | exact Or.inl rfl | exact Or.inr (Or.inl rfl) | exact Or.inr (Or.inr rfl)) (ja_cons (je_v 4) (ja_nil))) (ja_nil))))))) (js_nil)) (js_one (js_ret (je_fn O__law_rows_of_dots (hr.mono (by decide)) (ja_cons (je_fnM O__law_quiet_dots (hr.mono (by decide)) (i := 0) rfl (by first | exact Or.inl rfl | exact Or.inr (Or.inl rfl) | exact Or.inr (Or.inr rfl)) (ja_cons (je_v 1) (ja_cons (je_v 2) (ja_nil)))) (ja_nil)))))))))
theorem sc__law_near_rows : FnScope N__law_near_rows P__law_near_rows (defScope st__law_near_rows) := ⟨rfl, rfl, rfl, by decide +kernel, rfl, by decide +kernel, by decide +kernel⟩
theorem bs__law_near_rows : BindsAs "_law_near_rows" st__law_near_rows P__law_near_rows := fun _ _ _ _ _ _ us hl => match us, hl with | [_], _ => rfl
theorem j__law_near_rows (B : Bl mg) (O__law_shadow_rows : Ok P w K mg base "_law_shadow_rows" P__law_shadow_rows 2 (spD K 1 S__law_shadow_rows)) (O__law_fair_rows : Ok P w K mg base "_law_fair_rows" P__law_fair_rows 6 (spM K 3 S__law_fair_rows)) (O__law_roll : Ok P w K mg base "_law_roll" P__law_roll 1 (spM K 2 S__law_roll)) (O__law_drawn_move : Ok P w K mg base "_law_drawn_move" P__law_drawn_move 3 (spM K 2 S__law_drawn_move)) : BodyCx P w K mg base "_law_near_rows" st__law_near_rows N__law_near_rows 6 fun X => JSs X (defBody st__law_near_rows) g__law_near_rows := fun f cdv A outer s H E hr => jss_of_jb (jb_cons (jb_js (js_lcF (own := [("_law_row", 7)]) rfl sc__law_near_rows.nd (i := 1) rfl rfl (sw_true rfl rfl rfl (by decide +kernel)) (ji_sq (je_fn O__law_shadow_rows (hr.mono (by decide)) (ja_cons (je_fnM O__law_fair_rows (hr.mono (by decide)) (i := 0) rfl (by first | exact Or.inl rfl | exact Or.inr (Or.inl rfl) | exact Or.inr (Or.inr rfl)) (ja_cons (je_int) (ja_cons (je_int) (ja_nil)))) (ja_nil)))) (blkOk_by (by rfl)) (fun _ _ _ _ _ => jg_n 7 sc__law_near_rows.nd) (fun _ _ _ _ _ => jts_nil) (fun _ _ _ _ _ => (jl_list B.list (je_v 7)).je))) (jb_cons (jb_js (js_parT (i := 2) (j := 3) rfl sc__law_near_rows.nd rfl rfl (by decide) (by first | exact Or.inl rfl | exact Or.inr rfl) (by first | exact Or.inl rfl | exact Or.inr rfl) ((je_fnM O__law_roll (hr.mono (by decide)) (i := 0) rfl (by first | exact Or.inl rfl | exact Or.inr (Or.inl rfl) | exact Or.inr (Or.inr rfl)) (ja_cons (je_int) (ja_nil))).jx) ((je_callB calld_len B.len (by decide +kernel) (ja_cons (je_v 1) (ja_nil))).jx))) (jb_cons (jb_js (js_par3 (i := 4) (j := 5) (k := 6) rfl sc__law_near_rows.nd rfl rfl rfl (by decide) (by decide) (by decide) rfl rfl rfl (je_fnM O__law_roll (hr.mono (by decide)) (i := 0) rfl (by first | exact Or.inl rfl | exact Or.inr (Or.inl rfl) | exact Or.inr (Or.inr rfl)) (ja_cons (je_v 3) (ja_nil))) (je_fnM O__law_roll (hr.mono (by decide)) (i := 0) rfl (by first | exact Or.inl rfl | exact Or.inr (Or.inl rfl) | exact Or.inr (Or.inr rfl)) (ja_cons (je_v 3) (ja_nil))) ((je_fnM O__law_roll (hr.mono (by decide)) (i := 0) rfl (by first | exact Or.inl rfl | exact Or.inr (Or.inl rfl) | exact Or.inr (Or.inr rfl)) (ja_cons (je_v 3) (ja_nil))).jx) rfl)) (jb_cons (jb_if (jt_cmp (opd_eq hr.units) (je_v 2) (je_int) (nomark _)) (jb_one (jb_asg (je_v 6) (jgc_of (jgb_subE (je_ix (je_v 1) (je_v 4)) (je_v 5))))) (jb_nil)) (jb_cons (jb_if (jt_cmp (opd_eq hr.units) (je_v 2) (je_int) (nomark _)) (jb_one (jb_asg (je_tup (ja_cons (je_ix (je_ix (je_v 1) (je_v 4)) (je_v 6)) (ja_cons (je_ix (je_ix (je_v 1) (je_v 4)) (je_v 5)) (ja_nil)))) (jgc_tup (V := NL) rfl (jgbs_cons (jgb_subE (je_ix (je_v 1) (je_v 4)) (je_v 5)) (jgbs_cons (jgb_subE (je_ix (je_v 1) (je_v 4)) (je_v 6)) (jgbs_nil)))))) (jb_nil)) (jb_cons (jb_js (js_if (jt_cmp (opd_eq hr.units) (je_v 2) (je_int) (nomark _)) (js_one (js_lcF (own := [("_law_row", 7)]) rfl sc__law_near_rows.nd (i := 1) rfl rfl (sw_true rfl rfl rfl (by decide +kernel)) (ji_sq (je_v 1)) (blkOk_by (by rfl)) (fun _ _ _ _ _ => jg_n 7 sc__law_near_rows.nd) (fun _ _ _ _ _ => jts_nil) (fun _ _ _ _ _ => je_fnM O__law_drawn_move (hr.mono (by decide)) (i := 0) rfl (by first | exact Or.inl rfl | exact Or.inr (Or.inl rfl) | exact Or.inr (Or.inr rfl)) (ja_cons (je_v 3) (ja_nil))))) (js_nil))) (jb_one (jb_js (js_ret (je_callTy calld_tuple B.tuple (by decide +kernel) (ja_cons ((jl_lc (own := [("_law_row", 7)]) rfl sc__law_near_rows.nd (ji_sq (je_v 1)) (blkOk_by (by rfl)) (fun _ _ _ _ _ => jg_n 7 sc__law_near_rows.nd) (fun _ _ _ _ _ => jts_nil) (fun _ _ _ _ _ => je_callTy calld_tuple B.tuple (by decide +kernel) (ja_cons (je_v 7) (ja_nil)))).je) (ja_nil)))))))))))) _ fun _ _ h => h
theorem sc_shadow_paper : FnScope N_shadow_paper P_shadow_paper (defScope st_shadow_paper) := ⟨rfl, rfl, rfl, by decide +kernel, rfl, by decide +kernel, by decide +kernel⟩
theorem bs_shadow_paper : BindsAs "shadow_paper" st_shadow_paper P_shadow_paper := fun _ _ _ _ _ _ us hl => match us, hl with | [_], _ => rfl
theorem j_shadow_paper (O__check_rows : Ok P w K mg base "_check_rows" P__check_rows 3 (spD K 1 S__check_rows)) (O__is_shadow : Ok P w K mg base "_is_shadow" P__is_shadow 4 (spD K 1 S__is_shadow)) (O__broken_paper : Ok P w K mg base "_broken_paper" P__broken_paper 2 (spD K 1 S__broken_paper)) : BodyCx P w K mg base "shadow_paper" st_shadow_paper N_shadow_paper 4 fun X => JSs X (defBody st_shadow_paper) g_shadow_paper := fun f cdv A outer s H E hr => js_cons (js_expr (je_fn O__check_rows (hr.mono (by decide)) (ja_cons (je_v 0) (ja_nil)))) (js_one (js_ret (je_if (jt_val (je_fn O__is_shadow (hr.mono (by decide)) (ja_cons (je_v 0) (ja_nil)))) (je_tup (ja_cons (je_str) (ja_nil))) (je_fn O__broken_paper (hr.mono (by decide)) (ja_cons (je_v 0) (ja_nil))))))
theorem sc_law : FnScope N_law P_law (defScope st_law) := ⟨rfl, rfl, rfl, by decide +kernel, rfl, by decide +kernel, by decide +kernel⟩
theorem bs_law : BindsAs "law" st_law P_law := fun _ _ _ _ _ _ us hl => match us, hl with | [_], _ => rfl
theorem j_law (B : Bl mg) (O__law_dice : Ok P w K mg base "_law_dice" P__law_dice 1 (spL K 2 S__law_dice)) (O__law_near_rows : Ok P w K mg base "_law_near_rows" P__law_near_rows 7 (spM K 1 S__law_near_rows)) (O_shadow_paper : Ok P w K mg base "shadow_paper" P_shadow_paper 5 (spD K 1 S_shadow_paper)) (O__law_first_paper : Ok P w K mg base "_law_first_paper" P__law_first_paper 3 (spD K 1 S__law_first_paper)) (O__law_values : Ok P w K mg base "_law_values" P__law_values 2 (spM K 3 S__law_values)) (O__law_shows : Ok P w K mg base "_law_shows" P__law_shows 2 (spD K 2 S__law_shows)) (O_is_shadow_paper : Ok P w K mg base "is_shadow_paper" P_is_shadow_paper 5 (spD K 2 S_is_shadow_paper)) : BodyCx P w K mg base "law" st_law N_law 7 fun X => JSs X (defBody st_law) g_law := fun f cdv A outer s H E hr => js_cons (js_for (vs := [1]) rfl (ji_r1 B.range (je_callB (calld_max2 rfl) B.max (by decide +kernel) (ja_cons (je_int) (ja_cons (je_callB (calld_min2 rfl) B.min (by decide +kernel) (ja_cons (je_int) (ja_cons (je_callB calld_len B.len (by decide +kernel) (ja_cons (je_v 0) (ja_nil))) (ja_nil)))) (ja_nil))))) (jg_n 1 sc_law.nd) (js_cons (js_set (i := 2) ((jl_fn O__law_dice (hr.mono (by decide)) (ja_cons (je_v 0) (ja_cons (je_v 1) (ja_nil)))).jx) sc_law.nd rfl (by first | exact Or.inl rfl | exact Or.inr rfl)) (js_one (js_for (vs := [3]) rfl (ji_r1 B.range (je_int)) (jg_n 3 sc_law.nd) (js_cons (js_set (i := 4) ((je_fnM O__law_near_rows (hr.mono (by decide)) (i := 2) rfl (by first | exact Or.inl rfl | exact Or.inr (Or.inl rfl) | exact Or.inr (Or.inr rfl)) (ja_nil)).jx) sc_law.nd rfl (by first | exact Or.inl rfl | exact Or.inr rfl)) (js_cons (js_set (i := 5) ((je_fn O_shadow_paper (hr.mono (by decide)) (ja_cons (je_v 4) (ja_nil))).jx) sc_law.nd rfl (by first | exact Or.inl rfl | exact Or.inr rfl)) (js_cons (js_if (jt_cmp (opd_ne hr.units) (je_v 5) (je_fn O__law_first_paper (hr.mono (by decide)) (ja_cons (je_v 4) (ja_nil))) (nomark _)) (js_one (js_ret (je_bl))) (js_nil)) (js_one (js_for (vs := [6]) rfl (ji_sq (je_fnM O__law_values (hr.mono (by decide)) (i := 2) rfl (by first | exact Or.inl rfl | exact Or.inr (Or.inl rfl) | exact Or.inr (Or.inr rfl)) (ja_cons (je_v 4) (ja_cons (je_v 5) (ja_nil))))) (jg_n 6 sc_law.nd) (js_one (js_if (jt_cmp (opd_ne hr.units) (je_fn O_is_shadow_paper (hr.mono (by decide)) (ja_cons (je_v 4) (ja_cons (je_v 6) (ja_nil)))) (je_fn O__law_shows (hr.mono (by decide)) (ja_cons (je_v 4) (ja_cons (je_v 6) (ja_nil)))) (nomark _)) (js_one (js_ret (je_bl))) (js_nil)))))))))))) (js_cons (js_set (i := 5) (((jl_lst (ja_cons (je_fn O_shadow_paper (hr.mono (by decide)) (ja_cons (je_tup (ja_cons (je_tup (ja_cons (je_int) (ja_cons (je_int) (ja_nil)))) (ja_cons (je_tup (ja_cons (je_int) (ja_cons (je_int) (ja_nil)))) (ja_nil)))) (ja_nil))) (ja_cons (je_fn O_shadow_paper (hr.mono (by decide)) (ja_cons (je_tup (ja_cons (je_tup (ja_cons (je_int) (ja_cons (je_int) (ja_nil)))) (ja_cons (je_tup (ja_cons (je_int) (ja_cons (je_int) (ja_nil)))) (ja_nil)))) (ja_nil))) (ja_cons (je_fn O_shadow_paper (hr.mono (by decide)) (ja_cons (je_tup (ja_nil)) (ja_nil))) (ja_cons (je_fn O_is_shadow_paper (hr.mono (by decide)) (ja_cons (je_tup (ja_nil)) (ja_cons (je_tup (ja_cons (je_str) (ja_nil))) (ja_nil)))) (ja_nil)))))).je).jx) sc_law.nd rfl (by first | exact Or.inl rfl | exact Or.inr rfl)) (js_one (js_ret (je_cmp (opd_eq hr.units) (je_v 5) ((jl_lst (ja_cons (je_tup (ja_cons (je_str) (ja_cons (je_int) (ja_cons (je_int) (ja_cons (je_int) (ja_nil)))))) (ja_cons (je_tup (ja_cons (je_str) (ja_cons (je_int) (ja_cons (je_int) (ja_cons (je_int) (ja_nil)))))) (ja_cons (je_tup (ja_cons (je_str) (ja_nil))) (ja_cons (je_bl) (ja_nil)))))).je) (nomark _)))))
end
end Dn.K69
set_option Elab.async false
set_option linter.all false
set_option maxRecDepth 100000
set_option autoImplicit false
set_option maxHeartbeats 4000000
namespace Dn
open PySem L2 Evl PySem.Spec PyProof.Rows
local macro_rules | `(tactic| walk_at "dd") => `(tactic| simp only [sSeq, sIf, sSet, sRet, sRetN, sNx, sEx, sAsg, sPar, dTOr, dTAnd, dTNot, dTst, dIsi, dVar, dC, dBin, dChain, dNeg, dI2, dAnd, dOr, dNot, dIfE, dCall, dCallF, aCons, aNil, dTup, lLst, dOfL, xIm, xOw, gNm, gTp, gsCons, gsNil, dYes, envD, dLen_tR, dLen_tI, dLen_tup, dLen_lst, seq_tR, seq_tI, seq_tup, seq_lst, dIs, dIsNot, dNe, dEq, dTupOf, dSl, oNone, oSome, iSq, iEn, iR1, iR2, sFor, lLc, sNever, dTRg, rg1, rg2, lRg, wipeD, isN, optD,
  gTpL, dIxP, sSub, dApp, dPopAt, dExt, dCallM, dCallO, dBinO, dTupO, lOf, lOfO, sRetO, iOw, dVarF, lCat, lCall, dAbs, dMax2, dMin2, dInt, atO, setO, MO.getL, MO.putL, Option.isSome_some,
  dInK, dGetK, dGetD, dInD, dGet1, lKeys, lSort, dLenSet, dRevT, sPutK, xDct, xDct1, sRetK, atK, keyD, sAugI,
  kit_int, kit_bool, kit_tuple, kit_str, List.map_cons, List.map_nil, List.cons_append, List.nil_append, List.replicate, List.set_cons_zero, List.set_cons_succ, List.getElem?_cons_zero, List.getElem?_cons_succ, List.length_cons, List.length_nil, List.length_map, Nat.reduceAdd, Nat.reduceSub, Bool.not_true, Bool.not_false, Bool.false_eq_true, if_true, if_false, true_and, reduceCtorEq, Bool.true_eq_false, rgD_rgI, Option.some.injEq, exists_eq_left', and_true])
theorem v__law_are_letters : VD g__law_are_letters S__law_are_letters 2 1 := fun ds Q _ h => by
  obtain ⟨xs, n, rfl, hl, n0, n1, h⟩ := h
  unfold g__law_are_letters
  walk_at "dd"
  refine wpLc_map (fun d => .bool (isTh n d)) (by omega) rfl (fun d hd K hK => ?_) (fun _ _ _ => rfl) ?_
  · walk_at "dd"
    cases d with
    | int i =>
      simp only [isTh] at hK
      walk_at "dd"
      refine bool_ways (fun e => ?_) (fun e => ?_)
      · have i0 : 0 ≤ i := by simpa using e
        rw [show decide ((-1000000000000000000000000000000000000000000000000000000000000 : Int) < i) = true from by simp; omega] at hK
        by_cases l : i < n
        · rw [show decide (i < (1000000000000000000000000000000000000000000000000000000000000 : Int)) = true from by simp; omega, show decide (i < n) = true from by simp [l], e] at hK
          rw [show decide (i < n) = true from by simp [l]]
          exact hK _ rfl
        · rw [show decide (i < n) = false from by simp [l]] at hK ⊢
          simp only [Bool.and_false] at hK
          exact hK _ rfl
      · rw [e] at hK
        simp only [Bool.and_false, Bool.false_and] at hK
        exact hK _ rfl
    | _ => first | (walk_at "dd"; exact hK _ rfl) | exact hK _ rfl
  · refine ⟨xs.map (isTh n), by simp, ?_⟩
    simpa using h
def b3 : DS := sSeq (sSet 5 (xIm (dBin dIx (dBin dIx (dVar 0) (dIxP 3 (dVar 4))) (dIxP 3 (dBin dAdd (dVar 4) (dC (.int 1))))))) (sAsg (dTup (aCons (dBin dIx (dVar 5) (dC (.int 0))) (aCons (dBin dIx (dVar 5) (dC (.int 1))) (aNil)))) (gTp 2 (gsCons (gSubW 3 (dVar 4)) (gsCons (gSubW 3 (dBin dAdd (dVar 4) (dC (.int 1)))) (gsNil)))))
theorem atI_two {α : Type} {x y z : α} {l : List α} : atI (x :: y :: z :: l) 2 = some z := by
  unfold atI ixN
  have : (2 : Int).toNat = 2 := rfl
  have l2 : (2 : Int) < (l.length : Int) + 1 + 1 + 1 := by omega
  simp [this, l2]
theorem b3_0 {R : List (List (Int × Int))} {n : Nat} (hR : Pw n R) {w pl : D} {a b c : Int} {x5 : Option SV} (ha : 0 ≤ a ∧ a < n) (hb : 0 ≤ b ∧ b < n) {E : DEnds}
    (h : E.nx [some (.im (tRP R)), some (.im w), some (.im pl), some (.ow (.lst [.int (pa R a b).1, .int (pa R a b).2, .int c])), some (.im (.int 0)), some (.im (tP (pa R a b)))]) :
    b3 E [some (.im (tRP R)), some (.im w), some (.im pl), some (.ow (.lst [.int a, .int b, .int c])), some (.im (.int 0)), x5] := by
  unfold b3
  walk_at "dd"
  have rl := hR.1
  have m := hR.2 _ (getD_mem (l := R) (i := a.toNat) (d := []) (by omega))
  refine ⟨_, _, _, rfl, rfl, atI_zero, ixRP ha.1 (by omega) ?_⟩
  refine ⟨_, _, _, rfl, rfl, atI_one, ixPs hb.1 (by rw [m.1]; exact hb.2) ?_⟩
  refine ixP0 (ixP1 ?_)
  refine ⟨by decide, ?_⟩
  unfold gSubW
  walk_at "dd"
  refine ⟨_, 0, 0, rfl, rfl, rfl, ?_⟩
  walk_at "dd"
  refine ⟨_, 1, 1, rfl, rfl, rfl, ?_⟩
  walk_at "dd"
  exact h
theorem b3_1 {R : List (List (Int × Int))} {n : Nat} (hR : Pw n R) {w pl : D} {a b c : Int} {x5 : Option SV} (hb : 0 ≤ b ∧ b < n) (hc : 0 ≤ c ∧ c < n) {E : DEnds}
    (h : E.nx [some (.im (tRP R)), some (.im w), some (.im pl), some (.ow (.lst [.int a, .int (pa R b c).1, .int (pa R b c).2])), some (.im (.int 1)), some (.im (tP (pa R b c)))]) :
    b3 E [some (.im (tRP R)), some (.im w), some (.im pl), some (.ow (.lst [.int a, .int b, .int c])), some (.im (.int 1)), x5] := by
  unfold b3
  walk_at "dd"
  have rl := hR.1
  have m := hR.2 _ (getD_mem (l := R) (i := b.toNat) (d := []) (by omega))
  refine ⟨_, _, _, rfl, rfl, atI_one, ixRP hb.1 (by omega) ?_⟩
  refine ⟨_, _, _, rfl, rfl, atI_two, ixPs hc.1 (by rw [m.1]; exact hc.2) ?_⟩
  refine ixP0 (ixP1 ?_)
  refine ⟨by decide, ?_⟩
  unfold gSubW
  walk_at "dd"
  refine ⟨_, 1, 1, rfl, rfl, rfl, ?_⟩
  walk_at "dd"
  refine ⟨_, 2, 2, rfl, rfl, rfl, ?_⟩
  walk_at "dd"
  exact h
theorem v__law_three : VD g__law_three S__law_three 3 3 := fun ds Q _ h => by
  obtain ⟨R, n, x, y, z, hR, hn, ht, h⟩ := h
  obtain ⟨hx, hy, hz⟩ : (0 ≤ x ∧ x < n) ∧ (0 ≤ y ∧ y < n) ∧ (0 ≤ z ∧ z < n) := mem_t3.1 ht
  rcases h with ⟨rfl, h⟩ | ⟨rfl, h⟩
  · unfold g__law_three
    simp only [tI, List.map_cons, List.map_nil]
    walk_at "dd"
    have p1 := pa_lt hR hx hy
    have p2 := pa_lt hR p1.2 hz
    refine b3_0 hR hx hy ?_
    refine b3_1 hR p1.2 hz ?_
    refine b3_0 hR p1.1 p2.1 ?_
    exact h
  · unfold g__law_three
    simp only [tI, List.map_cons, List.map_nil]
    walk_at "dd"
    have p1 := pa_lt hR hy hz
    have p2 := pa_lt hR hx p1.1
    refine b3_1 hR hy hz ?_
    refine b3_0 hR hx p1.1 ?_
    refine b3_1 hR p2.2 p1.2 ?_
    exact h
end Dn
set_option Elab.async false
set_option linter.all false
set_option maxRecDepth 100000
set_option autoImplicit false
set_option maxHeartbeats 4000000
namespace Dn
open PySem L2 Evl PySem.Spec PyProof.Rows
local macro_rules | `(tactic| walk_at "dd") => `(tactic| simp only [sSeq, sIf, sSet, sRet, sRetN, sNx, sEx, sAsg, sPar, dTOr, dTAnd, dTNot, dTst, dIsi, dVar, dC, dBin, dChain, dNeg, dI2, dAnd, dOr, dNot, dIfE, dCall, dCallF, aCons, aNil, dTup, lLst, dOfL, xIm, xOw, gNm, gTp, gsCons, gsNil, dYes, envD, dLen_tR, dLen_tI, dLen_tup, dLen_lst, seq_tR, seq_tI, seq_tup, seq_lst, dIs, dIsNot, dNe, dEq, dTupOf, dSl, oNone, oSome, iSq, iEn, iR1, iR2, sFor, lLc, sNever, dTRg, rg1, rg2, lRg, wipeD, isN, optD,
  gTpL, dIxP, sSub, dApp, dPopAt, dExt, dCallM, dCallO, dBinO, dTupO, lOf, lOfO, sRetO, iOw, dVarF, lCat, lCall, dAbs, dMax2, dMin2, dInt, atO, setO, MO.getL, MO.putL, Option.isSome_some,
  dInK, dGetK, dGetD, dInD, dGet1, lKeys, lSort, dLenSet, dRevT, sPutK, xDct, xDct1, sRetK, atK, keyD, sAugI,
  kit_int, kit_bool, kit_tuple, kit_str, List.map_cons, List.map_nil, List.cons_append, List.nil_append, List.replicate, List.set_cons_zero, List.set_cons_succ, List.getElem?_cons_zero, List.getElem?_cons_succ, List.length_cons, List.length_nil, List.length_map, Nat.reduceAdd, Nat.reduceSub, Bool.not_true, Bool.not_false, Bool.false_eq_true, if_true, if_false, true_and, reduceCtorEq, Bool.true_eq_false, rgD_rgI, Option.some.injEq, exists_eq_left', and_true])
theorem mem_rgD' {i j : Int} {d : D} (h : d ∈ rgD i j) : ∃ k : Int, d = .int k ∧ i ≤ k ∧ k < j := by
  unfold rgD at h
  obtain ⟨k, hk, rfl⟩ := List.mem_map.mp h
  have := List.mem_range.mp hk
  exact ⟨_, rfl, by omega, by omega⟩
theorem mem_rgD_of {i j k : Int} (h0 : i ≤ k) (h1 : k < j) : (.int k : D) ∈ rgD i j := by
  unfold rgD
  refine List.mem_map.mpr ⟨(k - i).toNat, List.mem_range.mpr (by omega), ?_⟩
  congr 1
  omega
theorem mem_rgM {n : Nat} {d : D} (h : d ∈ (rgI n).map PyData.int) : ∃ k : Int, d = .int k ∧ 0 ≤ k ∧ k < n := by
  obtain ⟨k, hk, rfl⟩ := List.mem_map.mp h
  exact ⟨k, rfl, mem_rgI.1 hk⟩
theorem mem_rgM_of {n : Nat} {k : Int} (h : 0 ≤ k ∧ k < n) : (.int k : D) ∈ (rgI n).map PyData.int := List.mem_map.mpr ⟨k, mem_rgI.2 h, rfl⟩
theorem rg8 {n : Nat} (h : n ≤ 8) : RgD 0 (n : Int) := ⟨by omega, by omega, by omega, by omega⟩
theorem rg8' {n : Nat} {i : Int} (h : n ≤ 8) (h0 : 0 ≤ i) (h1 : i < n) : RgD (i + 1) (n : Int) := ⟨by omega, by omega, by omega, by omega⟩
theorem v__law_first_fault : VD g__law_first_fault S__law_first_fault 1 4 := fun ds Q _ h => by
  obtain ⟨R, n, rfl, hR, hn, h⟩ := h
  have rl := hR.1
  have yes : ∀ {w : Str} {x y z : Int}, w ∈ W3 → (0 ≤ x ∧ x < n) → (0 ≤ y ∧ y < n) → (0 ≤ z ∧ z < n) → brk R w x y z = true → Q (.tuple [.str w, .int x, .int y, .int z]) := fun {w x y z} hw hx hy hz e =>
    h _ (.inr ⟨w, x, y, z, hw, mem_t3.2 ⟨hx, hy, hz⟩, rfl⟩) ⟨fun q => absurd q pap_ne, fun q => by have := q w hw (x, y, z) (mem_t3.2 ⟨hx, hy, hz⟩); rw [e] at this; cases this⟩
  unfold g__law_first_fault
  walk_at "dd"
  rw [dLen_tRP, rl]
  simp only [rgD_rgI]
  refine ⟨rg8 hn, ?_⟩
  refine wpFor_all (fun ρ => ∃ a b c, ρ = [some (.im (tRP R)), some (.im (.int n)), a, b, c]) (fun d => ∀ x, d = .int x → ∀ y z : Int, (0 ≤ y ∧ y < n) → (0 ≤ z ∧ z < n) → brk R "left" x y z = false) ⟨_, _, _, rfl⟩ (fun d hd ρ K hI k => ?_) (fun ρ hI hleft => ?_)
  · obtain ⟨a, b, c, rfl⟩ := hI
    obtain ⟨x, rfl, hx⟩ := mem_rgM hd
    walk_at "dd"
    refine ⟨rg8 hn, ?_⟩
    refine wpFor_all (fun ρ => ∃ b c, ρ = [some (.im (tRP R)), some (.im (.int n)), some (.im (.int x)), b, c]) (fun d => ∀ y, d = .int y → ∀ z : Int, (0 ≤ z ∧ z < n) → brk R "left" x y z = false) ⟨_, _, rfl⟩ (fun d hd ρ K hI k => ?_) (fun ρ hI hall => ?_)
    · obtain ⟨b, c, rfl⟩ := hI
      obtain ⟨y, rfl, hy⟩ := mem_rgM hd
      walk_at "dd"
      simp only [dAdd]
      refine ⟨rg8' hn hy.1 hy.2, ?_⟩
      refine wpFor_all (fun ρ => ∃ c, ρ = [some (.im (tRP R)), some (.im (.int n)), some (.im (.int x)), some (.im (.int y)), c]) (fun d => ∀ z, d = .int z → (pa R x y).1 ≠ (pa R x z).1) ⟨_, rfl⟩ (fun d hd ρ K hI k => ?_) (fun ρ hI hall => ?_)
      · obtain ⟨c, rfl⟩ := hI
        obtain ⟨z, rfl, hz0, hz1⟩ := mem_rgD' hd
        have hz : 0 ≤ z ∧ z < n := ⟨by omega, hz1⟩
        walk_at "dd"
        refine ixPa hR hx hy (ixP0 (ixPa hR hx hz (ixP0 ?_)))
        refine ⟨rfl, rfl, ?_⟩
        rw [eqv_int]
        refine ite_ways (fun e => ?_) (fun e => ?_)
        · refine ⟨by decide, yes (by simp) hx hy hz ?_⟩
          have l : y < z := by omega
          simp only [brk, if_true, Bool.and_eq_true, decide_eq_true_eq]
          exact ⟨l, by simpa using e⟩
        · exact k (fun z' e' => by cases e'; simpa using e) _ ⟨_, rfl⟩
      · obtain ⟨c, rfl⟩ := hI
        refine k (fun y' e z hz => ?_) _ ⟨_, _, rfl⟩
        cases e
        simp only [brk, if_true, Bool.and_eq_false_iff, decide_eq_false_iff_not]
        by_cases l : y < z
        · exact .inr (hall (.int z) (mem_rgD_of (by omega) hz.2) z rfl)
        · exact .inl l
    · obtain ⟨b, c, rfl⟩ := hI
      refine k (fun x' e y z hy hz => ?_) _ ⟨_, _, _, rfl⟩
      cases e
      exact hall _ (mem_rgM_of hy) y rfl z hz
  · obtain ⟨a, b, c, rfl⟩ := hI
    walk_at "dd"
    refine ⟨rg8 hn, ?_⟩
    refine wpFor_all (fun ρ => ∃ a b c, ρ = [some (.im (tRP R)), some (.im (.int n)), a, b, c]) (fun d => ∀ y, d = .int y → ∀ x z : Int, (0 ≤ x ∧ x < n) → (0 ≤ z ∧ z < n) → brk R "right" y x z = false) ⟨_, _, _, rfl⟩ (fun d hd ρ K hI k => ?_) (fun ρ hI hright => ?_)
    · obtain ⟨a, b, c, rfl⟩ := hI
      obtain ⟨y, rfl, hy⟩ := mem_rgM hd
      walk_at "dd"
      refine ⟨rg8 hn, ?_⟩
      refine wpFor_all (fun ρ => ∃ b c, ρ = [some (.im (tRP R)), some (.im (.int n)), b, some (.im (.int y)), c]) (fun d => ∀ x, d = .int x → ∀ z : Int, (0 ≤ z ∧ z < n) → brk R "right" y x z = false) ⟨_, _, rfl⟩ (fun d hd ρ K hI k => ?_) (fun ρ hI hall => ?_)
      · obtain ⟨b, c, rfl⟩ := hI
        obtain ⟨x, rfl, hx⟩ := mem_rgM hd
        walk_at "dd"
        simp only [dAdd]
        refine ⟨rg8' hn hx.1 hx.2, ?_⟩
        refine wpFor_all (fun ρ => ∃ c, ρ = [some (.im (tRP R)), some (.im (.int n)), some (.im (.int x)), some (.im (.int y)), c]) (fun d => ∀ z, d = .int z → (pa R x y).2 ≠ (pa R z y).2) ⟨_, rfl⟩ (fun d hd ρ K hI k => ?_) (fun ρ hI hall => ?_)
        · obtain ⟨c, rfl⟩ := hI
          obtain ⟨z, rfl, hz0, hz1⟩ := mem_rgD' hd
          have hz : 0 ≤ z ∧ z < n := ⟨by omega, hz1⟩
          walk_at "dd"
          refine ixPa hR hx hy (ixP1 (ixPa hR hz hy (ixP1 ?_)))
          refine ⟨rfl, rfl, ?_⟩
          rw [eqv_int]
          refine ite_ways (fun e => ?_) (fun e => ?_)
          · refine ⟨by decide, yes (by simp) hy hx hz ?_⟩
            have l : x < z := by omega
            simp only [brk, if_neg (show ¬ (("right" : Str) = "left") from by decide), if_true, Bool.and_eq_true, decide_eq_true_eq]
            exact ⟨l, by simpa using e⟩
          · exact k (fun z' e' => by cases e'; simpa using e) _ ⟨_, rfl⟩
        · obtain ⟨c, rfl⟩ := hI
          refine k (fun x' e z hz => ?_) _ ⟨_, _, rfl⟩
          cases e
          simp only [brk, if_neg (show ¬ (("right" : Str) = "left") from by decide), if_true, Bool.and_eq_false_iff, decide_eq_false_iff_not]
          by_cases l : x < z
          · exact .inr (hall (.int z) (mem_rgD_of (by omega) hz.2) z rfl)
          · exact .inl l
      · obtain ⟨b, c, rfl⟩ := hI
        refine k (fun y' e x z hx hz => ?_) _ ⟨_, _, _, rfl⟩
        cases e
        exact hall _ (mem_rgM_of hx) x rfl z hz
    · obtain ⟨a, b, c, rfl⟩ := hI
      walk_at "dd"
      refine ⟨rg8 hn, ?_⟩
      refine wpFor_all (fun ρ => ∃ a b c, ρ = [some (.im (tRP R)), some (.im (.int n)), a, b, c]) (fun d => ∀ x, d = .int x → ∀ y z : Int, (0 ≤ y ∧ y < n) → (0 ≤ z ∧ z < n) → brk R "three" x y z = false) ⟨_, _, _, rfl⟩ (fun d hd ρ K hI k => ?_) (fun ρ hI hthree => ?_)
      · obtain ⟨a, b, c, rfl⟩ := hI
        obtain ⟨x, rfl, hx⟩ := mem_rgM hd
        walk_at "dd"
        refine ⟨rg8 hn, ?_⟩
        refine wpFor_all (fun ρ => ∃ b c, ρ = [some (.im (tRP R)), some (.im (.int n)), some (.im (.int x)), b, c]) (fun d => ∀ y, d = .int y → ∀ z : Int, (0 ≤ z ∧ z < n) → brk R "three" x y z = false) ⟨_, _, rfl⟩ (fun d hd ρ K hI k => ?_) (fun ρ hI hall => ?_)
        · obtain ⟨b, c, rfl⟩ := hI
          obtain ⟨y, rfl, hy⟩ := mem_rgM hd
          walk_at "dd"
          refine ⟨rg8 hn, ?_⟩
          refine wpFor_all (fun ρ => ∃ c, ρ = [some (.im (tRP R)), some (.im (.int n)), some (.im (.int x)), some (.im (.int y)), c]) (fun d => ∀ z, d = .int z → brk R "three" x y z = false) ⟨_, rfl⟩ (fun d hd ρ K hI k => ?_) (fun ρ hI hall => ?_)
          · obtain ⟨c, rfl⟩ := hI
            obtain ⟨z, rfl, hz⟩ := mem_rgM hd
            walk_at "dd"
            have ht : (x, y, z) ∈ t3 n := mem_t3.2 ⟨hx, hy, hz⟩
            refine ⟨by decide, by decide, R, n, x, y, z, hR, hn, ht, .inl ⟨rfl, ?_⟩⟩
            refine ⟨by decide, by decide, R, n, x, y, z, hR, hn, ht, .inr ⟨rfl, ?_⟩⟩
            refine ⟨shaped_tI _, shaped_tI _, ?_⟩
            rw [eqv_tI]
            have e3 : brk R "three" x y z = !decide (plf R x y z = prf R x y z) := by
              simp only [brk, if_neg (show ¬ (("three" : Str) = "left") from by decide), if_neg (show ¬ (("three" : Str) = "right") from by decide)]
              simp
            rw [← e3]
            refine ite_ways (fun e => ?_) (fun e => ?_)
            · exact ⟨by decide, yes (by simp) hx hy hz e⟩
            · exact k (fun z' e' => by cases e'; exact e) _ ⟨_, rfl⟩
          · obtain ⟨c, rfl⟩ := hI
            refine k (fun y' e z hz => ?_) _ ⟨_, _, rfl⟩
            cases e
            exact hall _ (mem_rgM_of hz) z rfl
        · obtain ⟨b, c, rfl⟩ := hI
          refine k (fun x' e y z hy hz => ?_) _ ⟨_, _, _, rfl⟩
          cases e
          exact hall _ (mem_rgM_of hy) y rfl z hz
      · obtain ⟨a, b, c, rfl⟩ := hI
        walk_at "dd"
        refine ⟨by decide, h _ (.inl rfl) ⟨fun _ s hs t ht => ?_, fun _ => rfl⟩⟩
        obtain ⟨h1, h2, h3⟩ := mem_t3.1 ht
        simp only [List.mem_cons, List.not_mem_nil, or_false] at hs
        rcases hs with rfl | rfl | rfl
        · exact hleft _ (mem_rgM_of h1) _ rfl _ _ h2 h3
        · exact hright _ (mem_rgM_of h1) _ rfl _ _ h2 h3
        · exact hthree _ (mem_rgM_of h1) _ rfl _ _ h2 h3
end Dn
set_option Elab.async false
set_option linter.all false
set_option maxRecDepth 100000
set_option autoImplicit false
set_option maxHeartbeats 4000000
namespace Dn
open PySem L2 Evl PySem.Spec PyProof.Rows
local macro_rules | `(tactic| walk_at "dd") => `(tactic| simp only [sSeq, sIf, sSet, sRet, sRetN, sNx, sEx, sAsg, sPar, dTOr, dTAnd, dTNot, dTst, dIsi, dVar, dC, dBin, dChain, dNeg, dI2, dAnd, dOr, dNot, dIfE, dCall, dCallF, aCons, aNil, dTup, lLst, dOfL, xIm, xOw, gNm, gTp, gsCons, gsNil, dYes, envD, dLen_tR, dLen_tI, dLen_tup, dLen_lst, seq_tR, seq_tI, seq_tup, seq_lst, dIs, dIsNot, dNe, dEq, dTupOf, dSl, oNone, oSome, iSq, iEn, iR1, iR2, sFor, lLc, sNever, dTRg, rg1, rg2, lRg, wipeD, isN, optD,
  gTpL, dIxP, sSub, dApp, dPopAt, dExt, dCallM, dCallO, dBinO, dTupO, lOf, lOfO, sRetO, iOw, dVarF, lCat, lCall, dAbs, dMax2, dMin2, dInt, atO, setO, MO.getL, MO.putL, Option.isSome_some,
  dInK, dGetK, dGetD, dInD, dGet1, lKeys, lSort, dLenSet, dRevT, sPutK, xDct, xDct1, sRetK, atK, keyD, sAugI,
  kit_int, kit_bool, kit_tuple, kit_str, List.map_cons, List.map_nil, List.cons_append, List.nil_append, List.replicate, List.set_cons_zero, List.set_cons_succ, List.getElem?_cons_zero, List.getElem?_cons_succ, List.length_cons, List.length_nil, List.length_map, Nat.reduceAdd, Nat.reduceSub, Bool.not_true, Bool.not_false, Bool.false_eq_true, if_true, if_false, true_and, reduceCtorEq, Bool.true_eq_false, rgD_rgI, Option.some.injEq, exists_eq_left', and_true])
theorem v__law_dots_fault : VD g__law_dots_fault S__law_dots_fault 1 4 := fun ds Q _ h => by
  obtain ⟨C, n, rfl, hC, hn, h⟩ := h
  have rl := hC.1
  have yes : ∀ {w : Str} {x y z : Int}, w ∈ W2 → (0 ≤ x ∧ x < n) → (0 ≤ y ∧ y < n) → (0 ≤ z ∧ z < n) → brd C w x y z = true → Q (.tuple [.str w, .int x, .int y, .int z]) := fun {w x y z} hw hx hy hz e =>
    h _ (.inr ⟨w, x, y, z, hw, mem_t3.2 ⟨hx, hy, hz⟩, rfl⟩) ⟨fun q => absurd q pap_ne, fun q => by have := q w hw (x, y, z) (mem_t3.2 ⟨hx, hy, hz⟩); rw [e] at this; cases this⟩
  unfold g__law_dots_fault
  walk_at "dd"
  rw [rl]
  refine ⟨rg8 hn, ?_⟩
  refine wpFor_all (fun ρ => ∃ a b c, ρ = [some (.im (tR C)), some (.im (.int n)), a, b, c]) (fun d => ∀ x, d = .int x → ∀ y z : Int, (0 ≤ y ∧ y < n) → (0 ≤ z ∧ z < n) → brd C "row" x y z = false) ⟨_, _, _, rfl⟩ (fun d hd ρ K hI k => ?_) (fun ρ hI hleft => ?_)
  · obtain ⟨a, b, c, rfl⟩ := hI
    obtain ⟨x, rfl, hx⟩ := mem_rgM hd
    walk_at "dd"
    refine ⟨rg8 hn, ?_⟩
    refine wpFor_all (fun ρ => ∃ b c, ρ = [some (.im (tR C)), some (.im (.int n)), some (.im (.int x)), b, c]) (fun d => ∀ y, d = .int y → ∀ z : Int, (0 ≤ z ∧ z < n) → brd C "row" x y z = false) ⟨_, _, rfl⟩ (fun d hd ρ K hI k => ?_) (fun ρ hI hall => ?_)
    · obtain ⟨b, c, rfl⟩ := hI
      obtain ⟨y, rfl, hy⟩ := mem_rgM hd
      walk_at "dd"
      simp only [dAdd]
      refine ⟨rg8' hn hy.1 hy.2, ?_⟩
      refine wpFor_all (fun ρ => ∃ c, ρ = [some (.im (tR C)), some (.im (.int n)), some (.im (.int x)), some (.im (.int y)), c]) (fun d => ∀ z, d = .int z → dt C x y ≠ dt C x z) ⟨_, rfl⟩ (fun d hd ρ K hI k => ?_) (fun ρ hI hall => ?_)
      · obtain ⟨c, rfl⟩ := hI
        obtain ⟨z, rfl, hz0, hz1⟩ := mem_rgD' hd
        have hz : 0 ≤ z ∧ z < n := ⟨by omega, hz1⟩
        walk_at "dd"
        refine ixC hC hx hy (ixC hC hx hz ?_)
        refine ⟨rfl, rfl, ?_⟩
        rw [eqv_int]
        refine ite_ways (fun e => ?_) (fun e => ?_)
        · refine ⟨by decide, yes (by simp) hx hy hz ?_⟩
          have l : y < z := by omega
          simp only [brd, if_true, Bool.and_eq_true, decide_eq_true_eq]
          exact ⟨l, by simpa using e⟩
        · exact k (fun z' e' => by cases e'; simpa using e) _ ⟨_, rfl⟩
      · obtain ⟨c, rfl⟩ := hI
        refine k (fun y' e z hz => ?_) _ ⟨_, _, rfl⟩
        cases e
        simp only [brd, if_true, Bool.and_eq_false_iff, decide_eq_false_iff_not]
        by_cases l : y < z
        · exact .inr (hall (.int z) (mem_rgD_of (by omega) hz.2) z rfl)
        · exact .inl l
    · obtain ⟨b, c, rfl⟩ := hI
      refine k (fun x' e y z hy hz => ?_) _ ⟨_, _, _, rfl⟩
      cases e
      exact hall _ (mem_rgM_of hy) y rfl z hz
  · obtain ⟨a, b, c, rfl⟩ := hI
    walk_at "dd"
    refine ⟨rg8 hn, ?_⟩
    refine wpFor_all (fun ρ => ∃ a b c, ρ = [some (.im (tR C)), some (.im (.int n)), a, b, c]) (fun d => ∀ x, d = .int x → ∀ y z : Int, (0 ≤ y ∧ y < n) → (0 ≤ z ∧ z < n) → brd C "three" x y z = false) ⟨_, _, _, rfl⟩ (fun d hd ρ K hI k => ?_) (fun ρ hI hthree => ?_)
    · obtain ⟨a, b, c, rfl⟩ := hI
      obtain ⟨x, rfl, hx⟩ := mem_rgM hd
      walk_at "dd"
      refine ⟨rg8 hn, ?_⟩
      refine wpFor_all (fun ρ => ∃ b c, ρ = [some (.im (tR C)), some (.im (.int n)), some (.im (.int x)), b, c]) (fun d => ∀ y, d = .int y → ∀ z : Int, (0 ≤ z ∧ z < n) → brd C "three" x y z = false) ⟨_, _, rfl⟩ (fun d hd ρ K hI k => ?_) (fun ρ hI hall => ?_)
      · obtain ⟨b, c, rfl⟩ := hI
        obtain ⟨y, rfl, hy⟩ := mem_rgM hd
        walk_at "dd"
        refine ⟨rg8 hn, ?_⟩
        refine wpFor_all (fun ρ => ∃ c, ρ = [some (.im (tR C)), some (.im (.int n)), some (.im (.int x)), some (.im (.int y)), c]) (fun d => ∀ z, d = .int z → brd C "three" x y z = false) ⟨_, rfl⟩ (fun d hd ρ K hI k => ?_) (fun ρ hI hall => ?_)
        · obtain ⟨c, rfl⟩ := hI
          obtain ⟨z, rfl, hz⟩ := mem_rgM hd
          walk_at "dd"
          have a := dt_lt hC hx hy
          have b := dt_lt hC hx hz
          have c := dt_lt hC hy hx
          have d := dt_lt hC hy hz
          have ln : ∀ i : Int, 0 ≤ i ∧ i < n → (C.getD i.toNat []).length = n := fun i hi => (hC.2 _ (getD_mem (d := []) (by omega))).1
          refine ixC hC hx hy (ixR a.1 (by omega) (ixC hC hx hz (ixI b.1 (by rw [ln _ a]; exact b.2) ?_)))
          refine ixC hC hy hx (ixR c.1 (by omega) (ixC hC hy hz (ixI d.1 (by rw [ln _ c]; exact d.2) ?_)))
          refine ⟨rfl, rfl, ?_⟩
          rw [eqv_int]
          have e3 : brd C "three" x y z = !decide (dt C (dt C x y) (dt C x z) = dt C (dt C y x) (dt C y z)) := by
            simp only [brd, if_neg (show ¬ (("three" : Str) = "row") from by decide)]
            simp
          have e4 : (!decide ((C.getD (dt C x y).toNat []).getD (dt C x z).toNat 0 = (C.getD (dt C y x).toNat []).getD (dt C y z).toNat 0)) = brd C "three" x y z := e3.symm
          rw [e4]
          refine ite_ways (fun e => ?_) (fun e => ?_)
          · exact ⟨by decide, yes (by simp) hx hy hz e⟩
          · exact k (fun z' e' => by cases e'; exact e) _ ⟨_, rfl⟩
        · obtain ⟨c, rfl⟩ := hI
          refine k (fun y' e z hz => ?_) _ ⟨_, _, rfl⟩
          cases e
          exact hall _ (mem_rgM_of hz) z rfl
      · obtain ⟨b, c, rfl⟩ := hI
        refine k (fun x' e y z hy hz => ?_) _ ⟨_, _, _, rfl⟩
        cases e
        exact hall _ (mem_rgM_of hy) y rfl z hz
    · obtain ⟨a, b, c, rfl⟩ := hI
      walk_at "dd"
      refine ⟨by decide, h _ (.inl rfl) ⟨fun _ s hs t ht => ?_, fun _ => rfl⟩⟩
      obtain ⟨h1, h2, h3⟩ := mem_t3.1 ht
      simp only [List.mem_cons, List.not_mem_nil, or_false] at hs
      rcases hs with rfl | rfl
      · exact hleft _ (mem_rgM_of h1) _ rfl _ _ h2 h3
      · exact hthree _ (mem_rgM_of h1) _ rfl _ _ h2 h3
theorem in14 {k : Int} {Q : D → Prop} (h : Q (.bool (!(decide (k = 1) || decide (k = 4))))) : dIn true (.int k) (.tuple [.int 1, .int 4]) Q := by
  refine ⟨_, rfl, rfl, rfl, ?_⟩
  simp only [List.any_cons, List.any_nil, Bool.or_false, eqv_int, if_true]
  rw [show decide ((1 : Int) = k) = decide (k = 1) from by congr 1; exact propext ⟨Eq.symm, Eq.symm⟩, show decide ((4 : Int) = k) = decide (k = 4) from by congr 1; exact propext ⟨Eq.symm, Eq.symm⟩]
  exact h
theorem eqv_str {d : D} {s : Str} : PyData.eqv d (.str s) = isStr s d := by
  cases d <;> simp [PyData.eqv, isStr]
theorem eqv_t1 {d : D} {s : Str} : PyData.eqv (.tuple [d]) (.tuple [.str s]) = isStr s d := by
  have := eqv_str (d := d) (s := s)
  simp [PyData.eqv, PyData.eqvAll, this]
theorem eqv_t0 {xs : List D} : PyData.eqv (.tuple xs) (.tuple []) = decide (xs = []) := by
  cases xs <;> simp [PyData.eqv, PyData.eqvAll]
theorem eqv_t4 {a b c d : D} {s : Str} : PyData.eqv (.tuple [a, b, c, d]) (.tuple [.str s]) = false := by
  simp [PyData.eqv, PyData.eqvAll]
theorem isStr_eq {s : Str} {d : D} (h : isStr s d = true) : d = .str s := by
  unfold isStr at h
  split at h
  · simp at h; rw [h]
  · cases h
theorem isStr_str {s t : Str} : isStr s (.str t) = (t == s) := rfl
theorem judge_word {b : Str → Int → Int → Int → Bool} {ws : List Str} {fine : Str} {n : Nat} {d a x y : D} (h : ∀ s, d ≠ .str s) : judge b ws fine n (.tuple [d, a, x, y]) = false := by
  unfold judge
  split
  · rename_i e; simp at e
  · rename_i s _ _ _ e
    simp at e
    exact absurd e.1 (h s)
  · rfl
theorem judge_len {b : Str → Int → Int → Int → Bool} {ws : List Str} {fine : Str} {n : Nat} {xs : List D} (h1 : xs.length ≠ 1) (h4 : xs.length ≠ 4) : judge b ws fine n (.tuple xs) = false := by
  unfold judge
  split
  · rename_i e; cases e; simp at h1
  · rename_i e; cases e; simp at h4
  · rfl
theorem judge_th {b : Str → Int → Int → Int → Bool} {ws : List Str} {fine : Str} {n : Nat} {d a x y : D} (h : ([a, x, y] : List D).all (isTh n) = false) : judge b ws fine n (.tuple [d, a, x, y]) = false := by
  unfold judge
  split
  · rename_i e; simp at e
  · rename_i s p q r e
    simp at e
    obtain ⟨_, rfl, rfl, rfl⟩ := e
    simp only [List.all_cons, List.all_nil, Bool.and_true] at h
    by_cases h1 : isTh n (.int p) = true
    · by_cases h2 : isTh n (.int q) = true
      · by_cases h3 : isTh n (.int r) = true
        · simp [h1, h2, h3] at h
        · simp [h3]
      · simp [h2]
    · simp [h1]
  · rfl
theorem judge_other {b : Str → Int → Int → Int → Bool} {ws : List Str} {fine s : Str} {n : Nat} {a x y : D} (h : s ∉ ws) : judge b ws fine n (.tuple [.str s, a, x, y]) = false := by
  unfold judge
  split
  · rename_i e; simp at e
  · rename_i s' p q r e
    simp at e
    obtain ⟨rfl, _⟩ := e
    simp [h]
  · rfl
theorem judge_one {b : Str → Int → Int → Int → Bool} {ws : List Str} {fine : Str} {n : Nat} {d : D} (h : isStr fine d = false) : judge b ws fine n (.tuple [d]) = false := by
  unfold judge
  split
  · rename_i s e
    simp at e
    subst e
    rw [isStr_str] at h
    simp [h]
  · rename_i e; simp at e
  · rfl
theorem cut1 {x : D} {r : List D} : cutD (x :: r) (some 1) none = r := by
  unfold cutD HT.sIx
  have : min (Int.toNat 1) (r.length + 1) = 1 := by omega
  simp [this]
theorem v__law_is_fault : VD g__law_is_fault S__law_is_fault 2 6 := fun ds Q _ h => by
  obtain ⟨R, n, v, rfl, hR, hn, hv, h⟩ := h
  have rl := hR.1
  unfold g__law_is_fault
  walk_at "dd"
  rw [dLen_tRP, rl]
  cases v with
  | tuple xs =>
    obtain ⟨v1, v2, v3⟩ := hv xs rfl
    walk_at "dd"
    refine ⟨by decide, v2, by decide +kernel, ?_⟩
    rw [eqv_t0]
    refine ite_ways (fun e => ?_) (fun e0 => ?_)
    · have : xs = [] := by simpa using e
      subst this
      exact h
    · refine ⟨by decide, in14 ?_⟩
      dsimp only
      refine ite_ways (fun e => ?_) (fun e1 => ?_)
      · have l : xs.length ≠ 1 ∧ xs.length ≠ 4 := by
          simp only [Bool.not_eq_true', Bool.or_eq_false_iff, decide_eq_false_iff_not] at e
          omega
        rw [judge_len l.1 l.2] at h
        exact h
      · have l : xs.length = 1 ∨ xs.length = 4 := by
          simp only [Bool.not_eq_false', Bool.or_eq_true, decide_eq_true_eq] at e1
          omega
        rcases l with l | l
        · match xs, l with
          | [d], _ =>
            rw [cut1]
            refine ⟨[], n, rfl, by simp, by omega, by omega, ?_⟩
            dsimp only [List.all_nil]
            refine ⟨by decide, v2, by decide +kernel, ?_⟩
            rw [eqv_t1]
            refine ite_ways (fun e => ?_) (fun e => ?_)
            · have := isStr_eq e
              subst this
              refine ⟨R, n, rfl, hR, hn, fun p hp hq => ⟨by decide, pap_shaped (by decide +kernel) (by decide +kernel) hp, by decide +kernel, ?_⟩⟩
              have ev := pap_eqv (by decide +kernel) hp hq
              unfold fineD at ev
              rw [ev]
              simpa [judge] using h
            · refine ⟨rfl, rfl, ?_⟩
              rw [judge_one e] at h
              exact h
        · match xs, l with
          | [d, a, x, y], _ =>
            rw [cut1]
            refine ⟨[a, x, y], n, rfl, by simp, by omega, by omega, ?_⟩
            dsimp only
            refine ite_ways (fun e => ?_) (fun e => ?_)
            · rw [judge_th (by rw [Bool.not_eq_true'] at e; exact e)] at h
              exact h
            · have all3 : ([a, x, y] : List D).all (isTh n) = true := by simpa using e
              simp only [List.all_cons, List.all_nil, Bool.and_true, Bool.and_eq_true] at all3
              obtain ⟨q1, q2, q3⟩ := all3
              obtain ⟨i, rfl, hi⟩ := isTh_int q1
              obtain ⟨j, rfl, hj⟩ := isTh_int q2
              obtain ⟨k, rfl, hk⟩ := isTh_int q3
              have ht := th_t3 q1 q2 q3
              refine ⟨by decide, v2, by decide +kernel, ?_⟩
              rw [eqv_t4]
              rw [if_neg (by simp)]
              refine ⟨rfl, rfl, ?_⟩
              rw [eqv_int, if_neg (by simp)]
              refine ⟨rfl, rfl, v3 d (by simp), by decide +kernel, ?_⟩
              rw [eqv_str]
              refine ite_ways (fun e => ?_) (fun e2 => ?_)
              · have := isStr_eq e
                subst this
                rw [judge_yes (by simp) q1 q2 q3] at h
                simp only [brk, if_true] at h
                simp only [dLt, dI2, true_and]
                refine bool_ways (fun e => ?_) (fun e => ?_)
                · rw [e] at h
                  refine ixPa hR hi hj (ixP0 (ixPa hR hi hk (ixP0 ?_)))
                  refine ⟨rfl, rfl, ?_⟩
                  rw [eqv_int]
                  simpa using h
                · rw [e] at h
                  simpa using h
              · refine ⟨v3 d (by simp), by decide +kernel, ?_⟩
                rw [eqv_str]
                refine ite_ways (fun e => ?_) (fun e3 => ?_)
                · have := isStr_eq e
                  subst this
                  rw [judge_yes (by simp) q1 q2 q3] at h
                  simp only [brk, if_neg (show ¬ (("right" : Str) = "left") from by decide), if_true] at h
                  simp only [dLt, dI2, true_and]
                  refine bool_ways (fun e => ?_) (fun e => ?_)
                  · rw [e] at h
                    refine ixPa hR hj hi (ixP1 (ixPa hR hk hi (ixP1 ?_)))
                    refine ⟨rfl, rfl, ?_⟩
                    rw [eqv_int]
                    simpa using h
                  · rw [e] at h
                    simpa using h
                · refine ⟨by decide, v3 d (by simp), by decide +kernel, ?_⟩
                  rw [eqv_str]
                  refine bool_ways (fun e => ?_) (fun e4 => ?_)
                  · have := isStr_eq e
                    subst this
                    rw [judge_yes (by simp) q1 q2 q3] at h
                    refine ⟨by decide, R, n, i, j, k, hR, hn, ht, .inl ⟨rfl, ?_⟩⟩
                    refine ⟨by decide, R, n, i, j, k, hR, hn, ht, .inr ⟨rfl, ?_⟩⟩
                    refine ⟨shaped_tI _, shaped_tI _, ?_⟩
                    rw [eqv_tI]
                    simp only [brk, if_neg (show ¬ (("three" : Str) = "left") from by decide), if_neg (show ¬ (("three" : Str) = "right") from by decide)] at h
                    simpa using h
                  · have : judge (brk R) W3 "fair" n (.tuple [d, .int i, .int j, .int k]) = false := by
                      cases d with
                      | str s =>
                        refine judge_other fun hs => ?_
                        rw [isStr_str] at e2 e3 e4
                        simp only [List.mem_cons, List.not_mem_nil, or_false] at hs
                        rcases hs with rfl | rfl | rfl
                        · simp at e2
                        · simp at e3
                        · simp at e4
                      | _ => exact judge_word (by simp)
                    rw [this] at h
                    exact h
  | _ => first | exact h | (walk_at "dd"; exact h)
theorem v__law_is_dots_fault : VD g__law_is_dots_fault S__law_is_dots_fault 2 5 := fun ds Q _ h => by
  obtain ⟨C, n, v, rfl, hC, hn, hv, h⟩ := h
  have rl := hC.1
  unfold g__law_is_dots_fault
  walk_at "dd"
  rw [rl]
  cases v with
  | tuple xs =>
    obtain ⟨v1, v2, v3⟩ := hv xs rfl
    walk_at "dd"
    refine ⟨by decide, v2, by decide +kernel, ?_⟩
    rw [eqv_t0]
    refine ite_ways (fun e => ?_) (fun e0 => ?_)
    · have : xs = [] := by simpa using e
      subst this
      exact h
    · refine ⟨by decide, in14 ?_⟩
      dsimp only
      refine ite_ways (fun e => ?_) (fun e1 => ?_)
      · have l : xs.length ≠ 1 ∧ xs.length ≠ 4 := by
          simp only [Bool.not_eq_true', Bool.or_eq_false_iff, decide_eq_false_iff_not] at e
          omega
        rw [judge_len l.1 l.2] at h
        exact h
      · have l : xs.length = 1 ∨ xs.length = 4 := by
          simp only [Bool.not_eq_false', Bool.or_eq_true, decide_eq_true_eq] at e1
          omega
        rcases l with l | l
        · match xs, l with
          | [d], _ =>
            rw [cut1]
            refine ⟨[], n, rfl, by simp, by omega, by omega, ?_⟩
            dsimp only [List.all_nil]
            refine ⟨by decide, v2, by decide +kernel, ?_⟩
            rw [eqv_t1]
            refine ite_ways (fun e => ?_) (fun e => ?_)
            · have := isStr_eq e
              subst this
              refine ⟨C, n, rfl, hC, by omega, fun p hp hq => ⟨by decide, pap_shaped (by decide +kernel) (by decide +kernel) hp, by decide +kernel, ?_⟩⟩
              have ev := pap_eqv (by decide +kernel) hp hq
              unfold fineD at ev
              rw [ev]
              simpa [judge] using h
            · refine ⟨rfl, rfl, ?_⟩
              rw [judge_one e] at h
              exact h
        · match xs, l with
          | [d, a, x, y], _ =>
            rw [cut1]
            refine ⟨[a, x, y], n, rfl, by simp, by omega, by omega, ?_⟩
            dsimp only
            refine ite_ways (fun e => ?_) (fun e => ?_)
            · rw [judge_th (by rw [Bool.not_eq_true'] at e; exact e)] at h
              exact h
            · have all3 : ([a, x, y] : List D).all (isTh n) = true := by simpa using e
              simp only [List.all_cons, List.all_nil, Bool.and_true, Bool.and_eq_true] at all3
              obtain ⟨q1, q2, q3⟩ := all3
              obtain ⟨i, rfl, hi⟩ := isTh_int q1
              obtain ⟨j, rfl, hj⟩ := isTh_int q2
              obtain ⟨k, rfl, hk⟩ := isTh_int q3
              have ht := th_t3 q1 q2 q3
              refine ⟨by decide, v2, by decide +kernel, ?_⟩
              rw [eqv_t4]
              rw [if_neg (by simp)]
              refine ⟨rfl, rfl, ?_⟩
              rw [eqv_int, if_neg (by simp)]
              refine ⟨rfl, rfl, v3 d (by simp), by decide +kernel, ?_⟩
              rw [eqv_str]
              refine ite_ways (fun e => ?_) (fun e2 => ?_)
              · have := isStr_eq e
                subst this
                rw [judge_yes (by simp) q1 q2 q3] at h
                simp only [brd, if_true] at h
                simp only [dLt, dI2, true_and]
                refine bool_ways (fun e => ?_) (fun e => ?_)
                · rw [e] at h
                  refine ixC hC hi hj (ixC hC hi hk ?_)
                  refine ⟨rfl, rfl, ?_⟩
                  rw [eqv_int]
                  simpa using h
                · rw [e] at h
                  simpa using h
              · refine ⟨v3 d (by simp), by decide +kernel, ?_⟩
                rw [eqv_str]
                refine bool_ways (fun e => ?_) (fun e4 => ?_)
                · have := isStr_eq e
                  subst this
                  rw [judge_yes (by simp) q1 q2 q3] at h
                  have a := dt_lt hC hi hj
                  have b := dt_lt hC hi hk
                  have c := dt_lt hC hj hi
                  have d := dt_lt hC hj hk
                  have ln : ∀ i : Int, 0 ≤ i ∧ i < n → (C.getD i.toNat []).length = n := fun i hi => (hC.2 _ (getD_mem (d := []) (by omega))).1
                  refine ixC hC hi hj (ixR a.1 (by omega) (ixC hC hi hk (ixI b.1 (by rw [ln _ a]; exact b.2) ?_)))
                  refine ixC hC hj hi (ixR c.1 (by omega) (ixC hC hj hk (ixI d.1 (by rw [ln _ c]; exact d.2) ?_)))
                  refine ⟨rfl, rfl, ?_⟩
                  rw [eqv_int]
                  simp only [brd, if_neg (show ¬ (("three" : Str) = "row") from by decide)] at h
                  simpa [dt] using h
                · have : judge (brd C) W2 "dots" n (.tuple [d, .int i, .int j, .int k]) = false := by
                    cases d with
                    | str s =>
                      refine judge_other fun hs => ?_
                      rw [isStr_str] at e2 e4
                      simp only [List.mem_cons, List.not_mem_nil, or_false] at hs
                      rcases hs with rfl | rfl
                      · simp at e2
                      · simp at e4
                    | _ => exact judge_word (by simp)
                  rw [this] at h
                  exact h
  | _ => first | exact h | (walk_at "dd"; exact h)
end Dn
set_option Elab.async false
set_option linter.all false
set_option maxRecDepth 100000
set_option autoImplicit false
set_option maxHeartbeats 4000000
namespace Dn.K69
open PySem L2 Evl PySem.Spec PyProof.Rows
local macro_rules | `(tactic| walk_at "dd") => `(tactic| simp only [sSeq, sIf, sSet, sRet, sRetN, sNx, sEx, sAsg, sPar, dTOr, dTAnd, dTNot, dTst, dIsi, dVar, dC, dBin, dChain, dNeg, dI2, dAnd, dOr, dNot, dIfE, dCall, dCallF, aCons, aNil, dTup, lLst, dOfL, xIm, xOw, gNm, gTp, gsCons, gsNil, dYes, envD, dLen_tR, dLen_tI, dLen_tup, dLen_lst, seq_tR, seq_tI, seq_tup, seq_lst, dIs, dIsNot, dNe, dEq, dTupOf, dSl, oNone, oSome, iSq, iEn, iR1, iR2, sFor, lLc, sNever, dTRg, rg1, rg2, lRg, wipeD, isN, optD,
  gTpL, dIxP, sSub, dApp, dPopAt, dExt, dCallM, dCallO, dBinO, dTupO, lOf, lOfO, sRetO, iOw, dVarF, lCat, lCall, dAbs, dMax2, dMin2, dInt, atO, setO, MO.getL, MO.putL, Option.isSome_some,
  dInK, dGetK, dGetD, dInD, dGet1, lKeys, lSort, dLenSet, dLenSetL, dLenSet2, sPar3, dRevT, sPutK, xDct, xDct1, sRetK, atK, keyD, sAugI,
  kit_int, kit_bool, kit_tuple, kit_str, List.map_cons, List.map_nil, List.cons_append, List.nil_append, List.replicate, List.set_cons_zero, List.set_cons_succ, List.getElem?_cons_zero, List.getElem?_cons_succ, List.length_cons, List.length_nil, List.length_map, Nat.reduceAdd, Nat.reduceSub, Bool.not_true, Bool.not_false, Bool.false_eq_true, if_true, if_false, true_and, reduceCtorEq, Bool.true_eq_false, rgD_rgI, Option.some.injEq, exists_eq_left', and_true])
theorem v_joined_moves : VD g_joined_moves S_joined_moves 2 1 := fun ds Q _ h => by
  obtain ⟨n, a, b, rfl, hl, hn, hb, hbl, h⟩ := h
  unfold g_joined_moves
  walk_at "dd"
  refine wpLc_mapL b PyData.int (fun x => .int (a.getD x.toNat 0)) (by omega) rfl (fun x hx K hK => ?_) (fun _ => rfl) ?_
  · walk_at "dd"
    obtain ⟨x0, x1⟩ := hb x hx
    exact ixI x0 (by omega) (hK _ rfl)
  · try walk_at "dd"
    unfold tI at h
    rw [List.map_map] at h
    exact h
theorem v__check_rows : VD g__check_rows S__check_rows 1 0 := fun ds Q _ h => by
  obtain ⟨C, n, rfl, hC, hn, h⟩ := h
  unfold g__check_rows
  walk_at "dd"
  refine ⟨C, n, rfl, hC, hn, ?_⟩
  walk_at "dd"
  exact h
theorem v__breaks_shadow : VD g__breaks_shadow S__breaks_shadow 3 3 := fun ds Q _ h => by
  obtain ⟨C, n, s, x, y, z, rfl, hC, hn, hs, ht, h⟩ := h
  obtain ⟨hx, hy, hz⟩ : (0 ≤ x ∧ x < n) ∧ (0 ≤ y ∧ y < n) ∧ (0 ≤ z ∧ z < n) := mem_t3.1 ht
  unfold g__breaks_shadow
  simp only [tI, List.map_cons, List.map_nil]
  walk_at "dd"
  simp only [List.mem_cons, List.not_mem_nil, or_false] at hs
  rcases hs with rfl | rfl
  · refine ⟨by decide +kernel, by decide +kernel, ?_⟩
    rw [show PyData.eqv (.str "row") (.str "row") = true from by decide +kernel]
    simp only [brs, if_true] at h
    walk_at "dd"
    refine bool_ways (fun e => ?_) (fun e => ?_)
    · rw [e] at h
      refine ixC hC hx hy (ixC hC hx hz ?_)
      refine ⟨rfl, rfl, ?_⟩
      rw [eqv_int]
      simpa using h
    · rw [e] at h
      simpa using h
  · refine ⟨by decide +kernel, by decide +kernel, ?_⟩
    rw [show PyData.eqv (.str "three") (.str "row") = false from by decide +kernel]
    simp only [brs, if_neg (show ¬ (("three" : Str) = "row") from by decide)] at h
    walk_at "dd"
    have a := dt_lt hC hx hy
    have b := dt_lt hC hx hz
    have d := dt_lt hC hy hz
    have cl := hC.1
    have ln : ∀ i : Int, 0 ≤ i ∧ i < n → (C.getD i.toNat []).length = n := fun i hi => (hC.2 _ (getD_mem (d := []) (by omega))).1
    refine ixR hx.1 (by omega) (ixC hC hy hz (ixI d.1 (by rw [ln _ hx]; exact d.2) ?_))
    refine ixC hC hx hy (ixR a.1 (by omega) (ixC hC hx hz (ixI b.1 (by rw [ln _ a]; exact b.2) ?_)))
    refine ⟨rfl, rfl, ?_⟩
    rw [eqv_int]
    simpa [dt] using h
theorem papOf_cases {C : List (List Int)} {n : Nat} : (firstBrk C n = none ∧ noBrk (brs C) W2 n ∧ papOf C n = fineD "shadow") ∨ ∃ s t, s ∈ W2 ∧ t ∈ t3 n ∧ brs C s t.1 t.2.1 t.2.2 = true ∧ firstBrk C n = some (.tuple [.str s, .int t.1, .int t.2.1, .int t.2.2]) := by
  cases e : firstBrk C n with
  | none =>
    refine .inl ⟨rfl, fun s hs t ht => ?_, by unfold papOf; rw [e]; rfl⟩
    have := List.findSome?_eq_none_iff.mp (List.findSome?_eq_none_iff.mp e s hs) t ht
    cases z : brs C s t.1 t.2.1 t.2.2 with
    | false => rfl
    | true => rw [if_pos z] at this; cases this
  | some p =>
    obtain ⟨s, hs, e⟩ := List.exists_of_findSome?_eq_some e
    obtain ⟨t, ht, e⟩ := List.exists_of_findSome?_eq_some e
    split at e
    · rename_i z
      cases e
      exact .inr ⟨s, t, hs, ht, z, rfl⟩
    · cases e
theorem no_first {C : List (List Int)} {n : Nat} (h : noBrk (brs C) W2 n) : firstBrk C n = none := by
  rcases papOf_cases (C := C) (n := n) with h2 | ⟨s, t, hs, ht, z, _⟩
  · exact h2.1
  · rw [h s hs t ht] at z; cases z
theorem papOf_pap {C : List (List Int)} {n : Nat} : IsPap W2 "shadow" n (papOf C n) := by
  rcases papOf_cases (C := C) (n := n) with h | ⟨s, t, hs, ht, z, e⟩
  · exact .inl h.2.2
  · refine .inr ⟨s, t.1, t.2.1, t.2.2, hs, ht, ?_⟩
    unfold papOf; rw [e]; rfl
def nod (C : List (List Int)) (n : Nat) : Prop := ∀ x, x ∈ rgI n → (C.getD x.toNat []).Nodup
theorem shadow_iff {C : List (List Int)} {n : Nat} (h : Dw n C) : noBrk (brs C) W2 n ↔ (∀ x, x ∈ rgI n → (C.getD x.toNat []).Nodup) ∧ ∀ x, x ∈ rgI n → ∀ y, y ∈ rgI n → ∀ z, z ∈ rgI n → dt C x (dt C y z) = dt C (dt C x y) (dt C x z) := by
  have l1 : ∀ x y z, brs C "row" x y z = (decide (y < z) && decide (dt C x y = dt C x z)) := fun x y z => by simp only [brs, if_true]
  have l3 : ∀ x y z, brs C "three" x y z = decide (dt C x (dt C y z) ≠ dt C (dt C x y) (dt C x z)) := fun x y z => by simp only [brs, if_neg (show ¬ (("three" : Str) = "row") from by decide)]
  have nd : ∀ x : Int, 0 ≤ x ∧ x < n → ((C.getD x.toNat []).Nodup ↔ ∀ y z : Int, 0 ≤ y → y < z → z < n → dt C x y ≠ dt C x z) := fun x hx => by
    have ll := (h.row hx.1 hx.2).1
    rw [nodup_pairs]
    constructor
    · intro w y z y0 yz zn
      exact w y.toNat z.toNat (by omega) (by omega)
    · intro w i j ij jl
      exact w i j (by omega) (by omega) (by omega)
  constructor
  · intro w
    refine ⟨fun x hx => (nd x (mem_rgI.mp hx)).2 fun y z y0 yz zn e => ?_, fun x hx y hy z hz => ?_⟩
    · have := w "row" (by simp) (x, y, z) (mem_t3.2 ⟨mem_rgI.mp hx, by simp; omega, by simp; omega⟩)
      dsimp only at this
      rw [l1] at this
      simp [yz, e] at this
    · have := w "three" (by simp) (x, y, z) (mem_t3.2 ⟨mem_rgI.mp hx, mem_rgI.mp hy, mem_rgI.mp hz⟩)
      dsimp only at this
      rw [l3] at this
      simpa using this
  · rintro ⟨w1, w2⟩ s hs ⟨x, y, z⟩ ht
    obtain ⟨hx, hy, hz⟩ : (0 ≤ x ∧ x < n) ∧ (0 ≤ y ∧ y < n) ∧ (0 ≤ z ∧ z < n) := mem_t3.1 ht
    dsimp only
    simp only [List.mem_cons, List.not_mem_nil, or_false] at hs
    rcases hs with rfl | rfl
    · rw [l1]
      by_cases yz : y < z
      · have := (nd x hx).1 (w1 x (mem_rgI.mpr hx)) y z hy.1 yz hz.2
        simp [this]
      · simp [yz]
    · rw [l3]
      have := w2 x (mem_rgI.mpr hx) y (mem_rgI.mpr hy) z (mem_rgI.mpr hz)
      simpa using this
end Dn.K69
set_option Elab.async false
set_option linter.all false
set_option maxRecDepth 100000
set_option autoImplicit false
set_option maxHeartbeats 4000000
namespace Dn.K69
open PySem L2 Evl PySem.Spec PyProof.Rows
local macro_rules | `(tactic| walk_at "dd") => `(tactic| simp only [sSeq, sIf, sSet, sRet, sRetN, sNx, sEx, sAsg, sPar, dTOr, dTAnd, dTNot, dTst, dIsi, dVar, dC, dBin, dChain, dNeg, dI2, dAnd, dOr, dNot, dIfE, dCall, dCallF, aCons, aNil, dTup, lLst, dOfL, xIm, xOw, gNm, gTp, gsCons, gsNil, dYes, envD, dLen_tR, dLen_tI, dLen_tup, dLen_lst, seq_tR, seq_tI, seq_tup, seq_lst, dIs, dIsNot, dNe, dEq, dTupOf, dSl, oNone, oSome, iSq, iEn, iR1, iR2, sFor, lLc, sNever, dTRg, rg1, rg2, lRg, wipeD, isN, optD,
  gTpL, dIxP, sSub, dApp, dPopAt, dExt, dCallM, dCallO, dBinO, dTupO, lOf, lOfO, sRetO, iOw, dVarF, lCat, lCall, dAbs, dMax2, dMin2, dInt, atO, setO, MO.getL, MO.putL, Option.isSome_some,
  dInK, dGetK, dGetD, dInD, dGet1, lKeys, lSort, dLenSet, dLenSetL, dLenSet2, sPar3, dRevT, sPutK, xDct, xDct1, sRetK, atK, keyD, sAugI,
  kit_int, kit_bool, kit_tuple, kit_str, List.map_cons, List.map_nil, List.cons_append, List.nil_append, List.replicate, List.set_cons_zero, List.set_cons_succ, List.getElem?_cons_zero, List.getElem?_cons_succ, List.length_cons, List.length_nil, List.length_map, Nat.reduceAdd, Nat.reduceSub, Bool.not_true, Bool.not_false, Bool.false_eq_true, if_true, if_false, true_and, reduceCtorEq, Bool.true_eq_false, rgD_rgI, Option.some.injEq, exists_eq_left', and_true])
theorem isMoveOf_row {n : Nat} {r : List Int} (h : Mv n r) (hn : n ≤ 24) : isMoveOf n (tI r) = decide r.Nodup := by
  have hl : r.length = n := h.1
  have e1 : (r.map PyData.int).all (isTh (n : Int)) = true := by
    rw [List.all_eq_true]
    intro d hd
    obtain ⟨x, hx, rfl⟩ := List.mem_map.mp hd
    have := h.2 x hx
    exact isTh_in this.1 this.2 (by omega)
  unfold isMoveOf tI
  simp only [isMove, List.length_map, hl, e1, intD_map, Bool.true_and]
  rw [show decide (n ≤ 24) = true from decide_eq_true hn]
  simp
theorem map_eq_iff {a b : List Int} {n : Nat} {f g : Int → Int} (ha : a.length = n) (hb : b.length = n) : a.map f = b.map g ↔ ∀ z, z ∈ rgI n → f (a.getD z.toNat 0) = g (b.getD z.toNat 0) := by
  constructor
  · intro h z hz
    obtain ⟨z0, z1⟩ := mem_rgI.mp hz
    have h1 := congrArg (fun l => l.getD z.toNat 0) h
    simp only [List.getD_eq_getElem?_getD, List.getElem?_map] at h1 ⊢
    rw [List.getElem?_eq_getElem (show z.toNat < a.length by omega), List.getElem?_eq_getElem (show z.toNat < b.length by omega)] at h1 ⊢
    exact h1
  · intro h
    refine List.ext_getElem (by simp [ha, hb]) fun i h1 h2 => ?_
    rw [List.length_map] at h1 h2
    have := h (i : Int) (mem_rgI.mpr ⟨by omega, by omega⟩)
    simp only [List.getD_eq_getElem?_getD, Int.toNat_natCast] at this
    rw [List.getElem?_eq_getElem h1, List.getElem?_eq_getElem h2] at this
    rw [List.getElem_map, List.getElem_map]
    exact this
theorem mem_row {C : List (List Int)} {n : Nat} (h : Dw n C) {r : List Int} (hr : r ∈ C) : ∃ x, x ∈ rgI n ∧ C.getD x.toNat [] = r := by
  obtain ⟨i, hi, rfl⟩ := List.mem_iff_getElem.mp hr
  refine ⟨(i : Int), mem_rgI.mpr ⟨by omega, by have := h.1; omega⟩, ?_⟩
  simp [List.getD_eq_getElem?_getD, List.getElem?_eq_getElem hi]
/-- the second rule at a row and a letter -/
def tr (C : List (List Int)) (r : List Int) (y : Int) : Prop := (C.getD y.toNat []).map (fun x => r.getD x.toNat 0) = r.map (fun x => (C.getD (r.getD y.toNat 0).toNat []).getD x.toNat 0)
instance (C : List (List Int)) (r : List Int) (y : Int) : Decidable (tr C r y) := by unfold tr; infer_instance
theorem shadow_rows {C : List (List Int)} {n : Nat} (h : Dw n C) : noBrk (brs C) W2 n ↔ (∀ r, r ∈ C → r.Nodup) ∧ ∀ r, r ∈ C → ∀ y, y ∈ rgI n → tr C r y := by
  have row : ∀ x, x ∈ rgI n → C.getD x.toNat [] ∈ C := fun x hx => getD_mem (by have := mem_rgI.mp hx; have := h.1; omega)
  have len : ∀ x, x ∈ rgI n → (C.getD x.toNat []).length = n := fun x hx => (h.2 _ (row x hx)).1
  rw [shadow_iff h]
  constructor
  · rintro ⟨w1, w2⟩
    refine ⟨fun r hr => ?_, fun r hr y hy => ?_⟩
    · obtain ⟨x, hx, rfl⟩ := mem_row h hr
      exact w1 x hx
    · obtain ⟨x, hx, rfl⟩ := mem_row h hr
      exact (map_eq_iff (len y hy) (len x hx)).2 fun z hz => w2 x hx y hy z hz
  · rintro ⟨w1, w2⟩
    exact ⟨fun x hx => w1 _ (row x hx), fun x hx y hy z hz => (map_eq_iff (len y hy) (len x hx)).1 (w2 _ (row x hx) y hy) z hz⟩
theorem v__is_shadow : VD g__is_shadow S__is_shadow 1 3 := fun ds Q _ h => by
  obtain ⟨C, n, rfl, hC, hn, h⟩ := h
  have cl := hC.1
  unfold g__is_shadow
  walk_at "dd"
  refine wpLc_mapL C tI (fun r => .bool (decide r.Nodup)) (by omega) rfl (fun r hr K hK => ?_) (fun _ => rfl) ?_
  · walk_at "dd"
    rw [cl]
    refine ⟨_, n, rfl, ?_⟩
    rw [isMoveOf_row (hC.2 r hr) (by omega)]
    exact hK _ rfl
  walk_at "dd"
  refine ⟨C.map fun r => decide r.Nodup, by rw [List.map_map]; rfl, ?_⟩
  dsimp only
  rw [all_id]
  refine ite_ways (fun e => ?_) (fun e => ?_)
  · rw [show decide (noBrk (brs C) W2 n) = false from decide_eq_false fun w => by
      have := ((shadow_rows hC).1 w).1
      rw [Bool.not_eq_true', List.all_eq_false] at e
      obtain ⟨r, hr, e⟩ := e
      exact e (decide_eq_true (this r hr))] at h
    exact h
  · have all1 : ∀ r, r ∈ C → r.Nodup := fun r hr => by
      rw [Bool.not_eq_false', List.all_eq_true] at e
      simpa using e r hr
    refine wpFor_fs C tI (fun r => (rgI n).findSome? fun y => if tr C r y then none else some (.bool false)) (fun ρ => ∃ x1 x2 x3, ρ = [some (.im (tR C)), x1, x2, x3]) ⟨_, _, _, rfl⟩ (fun r hr ρ K B hI hq hk => ?_) (fun v hv => ?_) (fun hv ρ hI => ?_)
    · obtain ⟨x1, x2, x3, rfl⟩ := hI
      have mr := hC.2 r hr
      walk_at "dd"
      rw [enD_map r PyData.int 0, mr.1]
      refine wpFor_fs (rgI n) (fun k => .tuple [.int k, .int (r.getD k.toNat 0)]) (fun y => if tr C r y then none else some (.bool false)) (fun ρ => ∃ x2 x3, ρ = [some (.im (tR C)), some (.im (tI r)), x2, x3]) ⟨_, _, rfl⟩ (fun y hy ρ K2 B2 hI2 hq2 hk2 => ?_) hq (fun hv ρ hI2 => ?_)
      · obtain ⟨x2, x3, rfl⟩ := hI2
        have hy := mem_rgI.mp hy
        have g := mr.dl hy.1 hy.2
        have ry := hC.row hy.1 hy.2
        have rg := hC.row g.1 g.2
        walk_at "dd"
        refine ixR hy.1 (by omega) ?_
        try walk_at "dd"
        refine ⟨n, r, _, rfl, mr.1, by omega, ry.2, by rw [ry.1]; omega, ?_⟩
        try walk_at "dd"
        refine ixR g.1 (by omega) ?_
        try walk_at "dd"
        refine ⟨n, _, r, rfl, rg.1, by omega, mr.2, by rw [mr.1]; omega, ?_⟩
        refine ⟨shaped_tI _, shaped_tI _, ?_⟩
        rw [eqv_tI]
        refine ite_ways (fun e => ?_) (fun e => ?_)
        · exact hq2 _ (if_neg (by simpa [tr] using e))
        · exact hk2 (if_pos (by simpa [tr] using e)) _ ⟨_, _, rfl⟩
      · obtain ⟨x2, x3, rfl⟩ := hI2
        exact hk hv _ ⟨_, _, _, rfl⟩
    · obtain ⟨r, hr, e⟩ := List.exists_of_findSome?_eq_some hv
      obtain ⟨y, hy, e⟩ := List.exists_of_findSome?_eq_some e
      split at e
      · cases e
      · rename_i ne
        cases e
        rw [show decide (noBrk (brs C) W2 n) = false from decide_eq_false fun w => ne (((shadow_rows hC).1 w).2 r hr y hy)] at h
        exact h
    · obtain ⟨x1, x2, x3, rfl⟩ := hI
      rw [show decide (noBrk (brs C) W2 n) = true from decide_eq_true ((shadow_rows hC).2 ⟨all1, fun r hr y hy => by
        have := List.findSome?_eq_none_iff.mp (List.findSome?_eq_none_iff.mp hv r hr) y hy
        exact Classical.byContradiction fun z => by rw [if_neg z] at this; cases this⟩)] at h
      try walk_at "dd"
      exact h
end Dn.K69
set_option Elab.async false
set_option linter.all false
set_option maxRecDepth 100000
set_option autoImplicit false
set_option maxHeartbeats 4000000
namespace Dn.K69
open PySem L2 Evl PySem.Spec PyProof.Rows
local macro_rules | `(tactic| walk_at "dd") => `(tactic| simp only [sSeq, sIf, sSet, sRet, sRetN, sNx, sEx, sAsg, sPar, dTOr, dTAnd, dTNot, dTst, dIsi, dVar, dC, dBin, dChain, dNeg, dI2, dAnd, dOr, dNot, dIfE, dCall, dCallF, aCons, aNil, dTup, lLst, dOfL, xIm, xOw, gNm, gTp, gsCons, gsNil, dYes, envD, dLen_tR, dLen_tI, dLen_tup, dLen_lst, seq_tR, seq_tI, seq_tup, seq_lst, dIs, dIsNot, dNe, dEq, dTupOf, dSl, oNone, oSome, iSq, iEn, iR1, iR2, sFor, lLc, sNever, dTRg, rg1, rg2, lRg, wipeD, isN, optD,
  gTpL, dIxP, sSub, dApp, dPopAt, dExt, dCallM, dCallO, dBinO, dTupO, lOf, lOfO, sRetO, iOw, dVarF, lCat, lCall, dAbs, dMax2, dMin2, dInt, atO, setO, MO.getL, MO.putL, Option.isSome_some,
  dInK, dGetK, dGetD, dInD, dGet1, lKeys, lSort, dLenSet, dLenSetL, dLenSet2, sPar3, dRevT, sPutK, xDct, xDct1, sRetK, atK, keyD, sAugI,
  kit_int, kit_bool, kit_tuple, kit_str, List.map_cons, List.map_nil, List.cons_append, List.nil_append, List.replicate, List.set_cons_zero, List.set_cons_succ, List.getElem?_cons_zero, List.getElem?_cons_succ, List.length_cons, List.length_nil, List.length_map, Nat.reduceAdd, Nat.reduceSub, Bool.not_true, Bool.not_false, Bool.false_eq_true, if_true, if_false, true_and, reduceCtorEq, Bool.true_eq_false, rgD_rgI, Option.some.injEq, exists_eq_left', and_true])
theorem all0_sub : ∀ {xs ys : List D}, ys.Sublist xs → PyData.canLayAll0 xs = true → PyData.canLayAll0 ys = true ∧ PyData.depthAll ys ≤ PyData.depthAll xs := by
  intro xs ys h
  induction h with
  | slnil => intro _; exact ⟨rfl, Nat.le_refl _⟩
  | cons a _ ih =>
    intro h
    simp only [PyData.canLayAll0, Bool.and_eq_true, PyData.depthAll] at h ⊢
    have := ih h.2
    exact ⟨this.1, Nat.le_trans this.2 (Nat.le_max_right _ _)⟩
  | cons_cons a _ ih =>
    intro h
    simp only [PyData.canLayAll0, Bool.and_eq_true, PyData.depthAll] at h ⊢
    have := ih h.2
    exact ⟨⟨h.1, this.1⟩, by omega⟩
theorem shaped_sub {xs ys : List D} (h : SeqAt.shaped (.tuple xs) = true) (s : ys.Sublist xs) : SeqAt.shaped (.list ys) = true := by
  unfold SeqAt.shaped at h ⊢
  simp only [PyData.canLay0, PyData.depth, Bool.and_eq_true, decide_eq_true_eq] at h ⊢
  have := all0_sub s h.1
  exact ⟨this.1, decide_eq_true (Nat.le_trans (Nat.add_le_add_right this.2 1) (of_decide_eq_true h.2))⟩
theorem ne_nil {xs ys : List D} {P1 P2 : Prop} (h : SeqAt.shaped (.tuple xs) = true) (s : ys.Sublist xs) (q : if decide (ys ≠ []) = true then P1 else P2) : SeqAt.shaped (.list ys) = true ∧ SeqAt.shaped (.list []) = true ∧ if (!PyData.eqv (.list ys) (.list [])) = true then P1 else P2 := by
  refine ⟨shaped_sub h s, by decide +kernel, ?_⟩
  have : (!PyData.eqv (.list ys) (.list [])) = decide (ys ≠ []) := by cases ys <;> simp [PyData.eqv, PyData.eqvAll]
  rw [this]
  exact q
def tz (C : List (List Int)) (r : List Int) (y z : Int) : Prop := r.getD (dt C y z).toNat 0 = (C.getD (r.getD y.toNat 0).toNat []).getD (r.getD z.toNat 0).toNat 0
instance (C : List (List Int)) (r : List Int) (y z : Int) : Decidable (tz C r y z) := by unfold tz; infer_instance
theorem tr_iff {C : List (List Int)} {n : Nat} (h : Dw n C) {r : List Int} (hr : r ∈ C) {y : Int} (hy : y ∈ rgI n) : tr C r y ↔ ∀ z, z ∈ rgI n → tz C r y z := by
  have hy := mem_rgI.mp hy
  unfold tr
  rw [map_eq_iff (n := n) (h.row hy.1 hy.2).1 (h.2 r hr).1]
  rfl
theorem shaped_tR {C : List (List Int)} : SeqAt.shaped (tR C) = true := by
  have z : ∀ C : List (List Int), PyData.canLayAll0 (C.map tI) = true ∧ PyData.depthAll (C.map tI) ≤ 2 := by
    intro C
    induction C with
    | nil => exact ⟨rfl, by simp [PyData.depthAll]⟩
    | cons r C ih =>
      have a := shaped_tI r
      unfold SeqAt.shaped at a
      rw [Bool.and_eq_true] at a
      have b : (tI r).depth ≤ 2 := by
        unfold tI
        have : ∀ r : List Int, PyData.depthAll (r.map PyData.int) ≤ 1 := by
          intro r
          induction r with
          | nil => simp [PyData.depthAll]
          | cons x r ih => simp only [List.map_cons, PyData.depthAll, PyData.depth]; omega
        have := this r
        simp only [PyData.depth]; omega
      simp only [List.map_cons, PyData.canLayAll0, PyData.depthAll, Bool.and_eq_true]
      exact ⟨⟨a.1, ih.1⟩, by omega⟩
  have := z C
  unfold SeqAt.shaped tR
  simp only [PyData.canLay0, PyData.depth, this.1, Bool.true_and, decide_eq_true_eq]
  exact decide_eq_true (by have := this.2; omega)
theorem fil_ne {C : List (List Int)} : decide ((C.filter fun r => decide (¬ r.Nodup)).map tI ≠ []) = !decide (∀ r, r ∈ C → r.Nodup) := by
  have : ((C.filter fun r => decide (¬ r.Nodup)).map tI ≠ []) ↔ ¬ ∀ r, r ∈ C → r.Nodup := by
    rw [ne_eq, List.map_eq_nil_iff, List.filter_eq_nil_iff]
    simp
  by_cases h : ∀ r, r ∈ C → r.Nodup
  · rw [decide_eq_true h, decide_eq_false (fun z => this.1 z h)]; rfl
  · rw [decide_eq_false h, decide_eq_true (this.2 h)]; rfl
theorem v__law_is_shadow : VD g__law_is_shadow S__law_is_shadow 1 4 := fun ds Q _ h => by
  obtain ⟨C, n, rfl, hC, hn, h⟩ := h
  have cl := hC.1
  have rg : RgD 0 (n : Int) := ⟨by omega, by omega, by omega, by omega⟩
  unfold g__law_is_shadow
  walk_at "dd"
  rw [cl]
  refine wpLc_filL C tI tI (fun r => decide (¬ r.Nodup)) (by omega) rfl (fun r hr K N hK hN => ?_) ?_
  · walk_at "dd"
    refine ⟨r, rfl, by rw [(hC.2 r hr).1]; omega, fun m hm hi => ?_⟩
    try simp only [dLt, dI2, true_and]
    rw [(hC.2 r hr).1] at hm hi
    refine ite_ways (fun e => hK ?_ _ rfl) (fun e => hN ?_ _ rfl)
    · have : (m : Int) < n := by simpa using e
      exact decide_eq_true fun z => by have := hi.2 z; omega
    · have : ¬ (m : Int) < n := by simpa using e
      exact decide_eq_false fun z => z (hi.1 (by omega))
  walk_at "dd"
  refine ⟨by decide, ?_⟩
  refine ne_nil (xs := C.map tI) shaped_tR (List.Sublist.map _ List.filter_sublist) ?_
  rw [fil_ne]
  refine ite_ways (fun e => ?_) (fun e => ?_)
  · rw [show decide (noBrk (brs C) W2 n) = false from decide_eq_false fun w => by
      rw [decide_eq_true ((shadow_rows hC).1 w).1] at e; cases e] at h
    exact h
  · have all1 : ∀ r, r ∈ C → r.Nodup := by simpa using e
    refine wpFor_fs C tI (fun r => (rgI n).findSome? fun y => (rgI n).findSome? fun z => if tz C r y z then none else some (.bool false)) (fun ρ => ∃ x1 x2 x3, ρ = [some (.im (tR C)), some (.im (.int n)), x1, x2, x3]) ⟨_, _, _, rfl⟩ (fun r hr ρ K B hI hq hk => ?_) (fun v hv => ?_) (fun hv ρ hI => ?_)
    · obtain ⟨x1, x2, x3, rfl⟩ := hI
      have mr := hC.2 r hr
      walk_at "dd"
      refine ⟨rg, ?_⟩
      refine wpFor_fs (rgI n) PyData.int (fun y => (rgI n).findSome? fun z => if tz C r y z then none else some (.bool false)) (fun ρ => ∃ x2 x3, ρ = [some (.im (tR C)), some (.im (.int n)), some (.im (tI r)), x2, x3]) ⟨_, _, rfl⟩ (fun y hy ρ K2 B2 hI2 hq2 hk2 => ?_) hq (fun hv ρ hI2 => ?_)
      · obtain ⟨x2, x3, rfl⟩ := hI2
        walk_at "dd"
        refine ⟨rg, ?_⟩
        refine wpFor_fs (rgI n) PyData.int (fun z => if tz C r y z then none else some (.bool false)) (fun ρ => ∃ x3, ρ = [some (.im (tR C)), some (.im (.int n)), some (.im (tI r)), some (.im (.int y)), x3]) ⟨_, rfl⟩ (fun z hz ρ K3 B3 hI3 hq3 hk3 => ?_) hq2 (fun hv ρ hI3 => ?_)
        · obtain ⟨x3, rfl⟩ := hI3
          have hy := mem_rgI.mp hy
          have hz := mem_rgI.mp hz
          have a := mr.dl hy.1 hy.2
          have b := mr.dl hz.1 hz.2
          have d := dt_lt hC hy hz
          walk_at "dd"
          refine ixC hC hy hz (ixI d.1 (by rw [mr.1]; exact d.2) ?_)
          refine ixI hy.1 (by rw [mr.1]; exact hy.2) (ixR a.1 (by omega) (ixI hz.1 (by rw [mr.1]; exact hz.2) (ixI b.1 (by rw [(hC.row a.1 a.2).1]; exact b.2) ?_)))
          refine ⟨rfl, rfl, ?_⟩
          rw [eqv_int]
          refine ite_ways (fun e => ?_) (fun e => ?_)
          · exact hq3 _ (if_neg (by simpa [tz] using e))
          · exact hk3 (if_pos (by simpa [tz] using e)) _ ⟨_, rfl⟩
        · obtain ⟨x3, rfl⟩ := hI3
          exact hk2 hv _ ⟨_, _, rfl⟩
      · obtain ⟨x2, x3, rfl⟩ := hI2
        exact hk hv _ ⟨_, _, _, rfl⟩
    · obtain ⟨r, hr, e⟩ := List.exists_of_findSome?_eq_some hv
      obtain ⟨y, hy, e⟩ := List.exists_of_findSome?_eq_some e
      obtain ⟨z, hz, e⟩ := List.exists_of_findSome?_eq_some e
      split at e
      · cases e
      · rename_i ne
        cases e
        rw [show decide (noBrk (brs C) W2 n) = false from decide_eq_false fun w => ne ((tr_iff hC hr hy).1 (((shadow_rows hC).1 w).2 r hr y hy) z hz)] at h
        exact h
    · obtain ⟨x1, x2, x3, rfl⟩ := hI
      rw [show decide (noBrk (brs C) W2 n) = true from decide_eq_true ((shadow_rows hC).2 ⟨all1, fun r hr y hy => (tr_iff hC hr hy).2 fun z hz => by
        have := List.findSome?_eq_none_iff.mp (List.findSome?_eq_none_iff.mp (List.findSome?_eq_none_iff.mp hv r hr) y hy) z hz
        exact Classical.byContradiction fun w => by rw [if_neg w] at this; cases this⟩)] at h
      try walk_at "dd"
      exact h
theorem v__broken_paper : VD g__broken_paper S__broken_paper 1 6 := fun ds Q _ h => by
  obtain ⟨C, n, p, rfl, hC, hn, hp, h⟩ := h
  have cl := hC.1
  unfold g__broken_paper
  walk_at "dd"
  simp only [xRng]
  walk_at "dd"
  rw [cl]
  refine ⟨n, rfl, by decide, ?_⟩
  refine wpFor_fs W2 PyData.str (fun s => (t3 n).findSome? fun t => if brs C s t.1 t.2.1 t.2.2 = true then some (.tuple [.str s, .int t.1, .int t.2.1, .int t.2.2]) else none) (fun ρ => ∃ x2 x3 x4 x5 x6, ρ = [some (.im (tR C)), some (.ow (.rng n)), x2, x3, x4, x5, x6]) ⟨_, _, _, _, _, rfl⟩ (fun s hs ρ K B hI hq hk => ?_) (fun v hv => ?_) (fun hv ρ hI => ?_)
  · obtain ⟨x2, x3, x4, x5, x6, rfl⟩ := hI
    walk_at "dd"
    simp only [dThr]
    refine ⟨rfl, n, rfl, by omega, ?_⟩
    try walk_at "dd"
    refine wpFor_fs (t3 n) tT (fun t => if brs C s t.1 t.2.1 t.2.2 = true then some (.tuple [.str s, .int t.1, .int t.2.1, .int t.2.2]) else none) (fun ρ => ∃ x3 x4 x5 x6, ρ = [some (.im (tR C)), some (.ow (.rng n)), some (.im (.str s)), x3, x4, x5, x6]) ⟨_, _, _, _, rfl⟩ (fun t ht ρ K2 B2 hI2 hq2 hk2 => ?_) hq (fun hv ρ hI2 => ?_)
    · obtain ⟨x3, x4, x5, x6, rfl⟩ := hI2
      walk_at "dd"
      refine ⟨C, n, s, t.1, t.2.1, t.2.2, rfl, hC, by omega, hs, ht, ?_⟩
      refine ite_ways (fun e => ?_) (fun e => ?_)
      · simp only [tT, dAdd]
        refine ⟨by decide, by show 1 + 3 ≤ 16777216; decide, ?_⟩
        exact hq2 _ (if_pos e)
      · exact hk2 (if_neg (by rw [e]; simp)) _ ⟨_, _, _, _, rfl⟩
    · obtain ⟨x3, x4, x5, x6, rfl⟩ := hI2
      exact hk hv _ ⟨_, _, _, _, _, rfl⟩
  · have : v = p := by
      unfold firstBrk at hp
      rw [hp] at hv
      exact (Option.some.inj hv).symm
    rw [this]
    exact h
  · unfold firstBrk at hp
    rw [hp] at hv
    cases hv
theorem v_shadow_paper : VD g_shadow_paper S_shadow_paper 1 0 := fun ds Q _ h => by
  obtain ⟨C, n, rfl, hC, hn, h⟩ := h
  unfold g_shadow_paper
  walk_at "dd"
  refine ⟨C, n, rfl, hC, hn, C, n, rfl, hC, hn, ?_⟩
  rcases papOf_cases (C := C) (n := n) with ⟨e1, e2, e3⟩ | ⟨s, t, hs, ht, e1, e2⟩
  · rw [decide_eq_true e2]
    try walk_at "dd"
    rw [e3] at h
    exact ⟨by decide, h⟩
  · rw [show decide (noBrk (brs C) W2 n) = false from decide_eq_false fun w => by rw [w s hs t ht] at e1; cases e1]
    try walk_at "dd"
    refine ⟨C, n, _, rfl, hC, hn, e2, ?_⟩
    unfold papOf at h
    rw [e2] at h
    exact h
theorem v_is_shadow_paper : VD g_is_shadow_paper S_is_shadow_paper 2 1 := fun ds Q _ h => by
  obtain ⟨C, n, v, rfl, hC, hn, hv, h⟩ := h
  have rl := hC.1
  unfold g_is_shadow_paper
  walk_at "dd"
  refine ⟨C, n, rfl, hC, hn, ?_⟩
  dsimp only
  refine ⟨by decide, ?_⟩
  refine wpFor_all (fun ρ => ∃ a, ρ = [some (.im (tR C)), some (.im v), a]) (fun d => ∀ s, d = .str s → isTold s 3 n v = false) ⟨_, rfl⟩ (fun d hd ρ K hI k => ?_) (fun ρ hI hall => ?_)
  · obtain ⟨a, rfl⟩ := hI
    obtain ⟨w, hw, sw, rfl⟩ : ∃ w, w ∈ W2 ∧ SeqAt.shaped (.str w) = true ∧ d = .str w := by
      simp only [List.mem_cons, List.not_mem_nil, or_false] at hd
      rcases hd with rfl | rfl <;> exact ⟨_, by simp, by decide +kernel, rfl⟩
    walk_at "dd"
    rw [rl]
    refine ⟨v, w, 3, n, rfl, ⟨by decide, by omega⟩, hv, sw, ?_⟩
    refine ite_ways (fun e => ?_) (fun e => ?_)
    · obtain ⟨x, y, z, rfl, h1, h2, h3⟩ := told_shape e
      rw [judge_yes hw h1 h2 h3] at h
      refine ⟨C, n, w, x, y, z, ?_, hC, by omega, hw, th_t3 h1 h2 h3, h⟩
      rfl
    · exact k (fun s e' => by cases e'; exact e) _ ⟨_, rfl⟩
  · obtain ⟨a, rfl⟩ := hI
    have none3 : ∀ s, s ∈ W2 → isTold s 3 n v = false := fun s hs => hall (.str s) (by
      simp only [List.mem_cons, List.not_mem_nil, or_false] at hs ⊢
      rcases hs with rfl | rfl <;> simp) s rfl
    rw [judge_no none3] at h
    walk_at "dd"
    refine ⟨by decide, .inr ⟨v, "shadow", rfl, hv, by decide +kernel, ?_⟩⟩
    refine bool_ways (fun e => ?_) (fun e => ?_)
    · rw [e, Bool.true_and] at h
      exact ⟨C, n, rfl, hC, hn, h⟩
    · rw [e] at h; exact h
theorem fs_t3 {β : Type} {n : Nat} (f : Int × Int × Int → Option β) : (t3 n).findSome? f = (rgI n).findSome? fun x => (rgI n).findSome? fun y => (rgI n).findSome? fun z => f (x, y, z) := by
  have z : ∀ {α γ : Type} (l : List α) (g : α → List γ) (f : γ → Option β), (l.flatMap g).findSome? f = l.findSome? fun x => (g x).findSome? f := by
    intro α γ l g f
    induction l with
    | nil => rfl
    | cons a l ih => rw [List.flatMap_cons, List.findSome?_append, ih, List.findSome?_cons]; cases (g a).findSome? f <;> rfl
  unfold t3
  rw [z]
  congr 1; funext x
  rw [z]
  congr 1; funext y
  rw [List.findSome?_map]
  rfl
end Dn.K69
set_option Elab.async false
set_option linter.all false
set_option maxRecDepth 100000
set_option autoImplicit false
set_option maxHeartbeats 4000000
namespace Dn.K69
open PySem L2 Evl PySem.Spec PyProof.Rows
local macro_rules | `(tactic| walk_at "dd") => `(tactic| simp only [sSeq, sIf, sSet, sRet, sRetN, sNx, sEx, sAsg, sPar, dTOr, dTAnd, dTNot, dTst, dIsi, dVar, dC, dBin, dChain, dNeg, dI2, dAnd, dOr, dNot, dIfE, dCall, dCallF, aCons, aNil, dTup, lLst, dOfL, xIm, xOw, gNm, gTp, gsCons, gsNil, dYes, envD, dLen_tR, dLen_tI, dLen_tup, dLen_lst, seq_tR, seq_tI, seq_tup, seq_lst, dIs, dIsNot, dNe, dEq, dTupOf, dSl, oNone, oSome, iSq, iEn, iR1, iR2, sFor, lLc, sNever, dTRg, rg1, rg2, lRg, wipeD, isN, optD,
  gTpL, dIxP, sSub, dApp, dPopAt, dExt, dCallM, dCallO, dBinO, dTupO, lOf, lOfO, sRetO, iOw, dVarF, lCat, lCall, dAbs, dMax2, dMin2, dInt, atO, setO, MO.getL, MO.putL, Option.isSome_some,
  dInK, dGetK, dGetD, dInD, dGet1, lKeys, lSort, dLenSet, dLenSetL, dLenSet2, sPar3, dRevT, sPutK, xDct, xDct1, sRetK, atK, keyD, sAugI,
  kit_int, kit_bool, kit_tuple, kit_str, List.map_cons, List.map_nil, List.cons_append, List.nil_append, List.replicate, List.set_cons_zero, List.set_cons_succ, List.getElem?_cons_zero, List.getElem?_cons_succ, List.length_cons, List.length_nil, List.length_map, Nat.reduceAdd, Nat.reduceSub, Bool.not_true, Bool.not_false, Bool.false_eq_true, if_true, if_false, true_and, reduceCtorEq, Bool.true_eq_false, rgD_rgI, Option.some.injEq, exists_eq_left', and_true])
theorem wpLc_fil {g : DG} {tt : DT} {te : DE} {vs : List Nat} {Q : List D → Env → Prop} (l : List D) (p : D → Bool) {ρ0 : Env} (hl : l.length < 16777216) (hw : wipeD ρ0 vs = ρ0)
    (hs : ∀ x, x ∈ l → ∀ (K : D → Env → Prop) (N : Env → Prop), (p x = true → ∀ ρ3, wipeD ρ3 vs = ρ0 → K x ρ3) → (p x = false → ∀ ρ3, wipeD ρ3 vs = ρ0 → N ρ3) → g x ρ0 fun ρ1 => tt ρ1 fun b ρ2 => if b = true then te ρ2 fun y ρ3 => K y ρ3 else N ρ2)
    (he : Q (l.filter p) ρ0) : wpLc g tt te vs Q l [] ρ0 := by
  have := wpLc_filL (g := g) (tt := tt) (te := te) (Q := Q) l id id p hl hw hs (by rw [List.map_id]; exact he)
  rw [List.map_id] at this
  exact this
def nI : D → Bool
  | .int _ => false
  | .bool _ => false
  | _ => true
def iB : D → Bool
  | .bool _ => true
  | _ => false
theorem ints_of : ∀ {r : List D}, r.filter nI = [] → r.filter iB = [] → ∃ ns : List Int, r = ns.map PyData.int
  | [], _, _ => ⟨[], rfl⟩
  | x :: r, h1, h2 => by
    rw [List.filter_eq_nil_iff] at h1 h2
    have a := h1 x (by simp)
    have b := h2 x (by simp)
    obtain ⟨ns, rfl⟩ := ints_of (r := r) (List.filter_eq_nil_iff.mpr fun y hy => h1 y (by simp [hy])) (List.filter_eq_nil_iff.mpr fun y hy => h2 y (by simp [hy]))
    cases x with
    | int i => exact ⟨i :: ns, rfl⟩
    | bool _ => simp [iB] at b
    | _ => simp [nI] at a
theorem judge_in {b : Str → Int → Int → Int → Bool} {ws : List Str} {fine : Str} {n : Nat} {d : D} {r : List D} (h : ∃ x, x ∈ r ∧ isTh n x = false) : judge b ws fine n (.tuple (d :: r)) = false := by
  obtain ⟨x, hx, e⟩ := h
  unfold judge
  split
  · rename_i e2; simp at e2; rw [e2.2] at hx; cases hx
  · rename_i s i j k e2
    simp at e2
    obtain ⟨_, rfl⟩ := e2
    simp only [List.mem_cons, List.not_mem_nil, or_false] at hx
    rcases hx with rfl | rfl | rfl <;> simp [e]
  · rfl
theorem judge_nostr {b : Str → Int → Int → Int → Bool} {ws : List Str} {fine : Str} {n : Nat} {d : D} {r : List D} (h : ∀ s, d ≠ .str s) : judge b ws fine n (.tuple (d :: r)) = false := by
  unfold judge
  split
  · rename_i s e; simp at e; exact absurd e.1 (h s)
  · rename_i s _ _ _ e; simp at e; exact absurd e.1 (h s)
  · rfl
def oT (n : Nat) : D → Bool
  | .int i => !(decide (0 ≤ i) && decide (i < n))
  | _ => true
theorem nI_th {n : Nat} {x : D} (h : nI x = true) : isTh n x = false := by cases x <;> simp [nI, isTh] at h ⊢
theorem iB_th {n : Nat} {x : D} (h : iB x = true) : isTh n x = false := by cases x <;> simp [iB, isTh] at h ⊢
theorem oT_th {n : Nat} {x : D} (h : oT n x = true) : isTh n x = false := by
  cases x with
  | int i =>
    simp only [oT, Bool.not_eq_true', Bool.and_eq_false_iff, decide_eq_false_iff_not] at h
    simp only [isTh, Bool.and_eq_false_iff, decide_eq_false_iff_not]
    right
    exact h
  | _ => simp [isTh]
theorem fil_in {p : D → Bool} {r : List D} (h : decide (r.filter p ≠ []) = true) : ∃ x, x ∈ r ∧ p x = true := by
  have h := of_decide_eq_true h
  rw [ne_eq, List.filter_eq_nil_iff] at h
  simp only [Classical.not_forall] at h
  obtain ⟨x, hx, e⟩ := h
  exact ⟨x, hx, by simpa using e⟩
theorem v__law_shows : VD g__law_shows S__law_shows 2 6 := fun ds Q _ h => by
  obtain ⟨C, n, v, rfl, hC, hn, hv, h⟩ := h
  have rl := hC.1
  unfold g__law_shows
  walk_at "dd"
  rw [rl]
  cases v with
  | tuple xs =>
    obtain ⟨v1, v2, v3⟩ := hv xs rfl
    walk_at "dd"
    refine ⟨by decide, v2, by decide +kernel, ?_⟩
    rw [eqv_t0]
    refine ite_ways (fun e => ?_) (fun e0 => ?_)
    · have : xs = [] := by simpa using e
      subst this
      exact h
    · match xs, e0 with
      | d :: r, _ =>
        refine ⟨d, atI_zero, ?_⟩
        cases d with
        | str s =>
          try walk_at "dd"
          refine ⟨by decide, v2, by decide +kernel, ?_⟩
          refine ite_ways (fun e => ?_) (fun e1 => ?_)
          · obtain ⟨rfl, rfl⟩ : s = "shadow" ∧ r = [] := by
              cases r <;> simp [PyData.eqv, PyData.eqvAll] at e
              exact ⟨e, rfl⟩
            exact ⟨C, n, rfl, hC, hn, by simpa [judge] using h⟩
          refine ⟨rfl, rfl, ?_⟩
          refine ite_ways (fun e => ?_) (fun e2 => ?_)
          · rw [eqv_int] at e
            have l4 : (PyData.str s :: r).length ≠ 4 := by
              simp only [Bool.not_eq_true', decide_eq_false_iff_not, List.length_cons] at e ⊢
              omega
            have : judge (brs C) W2 "shadow" n (.tuple (.str s :: r)) = false := by
              cases r with
              | nil =>
                refine judge_one ?_
                rw [isStr_str]
                simpa [PyData.eqv, PyData.eqvAll] using e1
              | cons a r => exact judge_len (by simp) l4
            rw [this] at h
            exact h
          rw [eqv_int] at e2
          have l3 : r.length = 3 := by
            simp only [Bool.not_eq_false', decide_eq_true_eq, List.length_cons] at e2
            omega
          rw [cut1]
          refine wpLc_fil r nI (by omega) rfl (fun q hq K N hK hN => ?_) ?_
          · walk_at "dd"
            cases q <;> first | (refine hK rfl _ ?_; rfl) | (refine hN rfl _ ?_; rfl)
          refine ⟨by decide, ?_⟩
          refine ne_nil v2 (List.Sublist.cons _ List.filter_sublist) ?_
          refine ite_ways (fun e => ?_) (fun e3 => ?_)
          · obtain ⟨x, hx, e⟩ := fil_in e
            rw [judge_in ⟨x, hx, nI_th e⟩] at h
            exact h
          try walk_at "dd"
          rw [cut1]
          refine wpLc_fil r iB (by omega) rfl (fun q hq K N hK hN => ?_) ?_
          · walk_at "dd"
            cases q <;> first | (refine hK rfl _ ?_; rfl) | (refine hN rfl _ ?_; rfl)
          refine ⟨by decide, ?_⟩
          refine ne_nil v2 (List.Sublist.cons _ List.filter_sublist) ?_
          refine ite_ways (fun e => ?_) (fun e4 => ?_)
          · obtain ⟨x, hx, e⟩ := fil_in e
            rw [judge_in ⟨x, hx, iB_th e⟩] at h
            exact h
          try walk_at "dd"
          obtain ⟨ns, rfl⟩ := ints_of (by simpa using e3) (by simpa using e4)
          rw [List.length_map] at l3
          match ns, l3 with
          | [i, j, k], _ =>
            rw [cut1]
            simp only [List.map_cons, List.map_nil] at h v2 v3 ⊢
            try walk_at "dd"
            refine ⟨by decide, ?_⟩
            refine wpLc_fil [.int i, .int j, .int k] (oT n) (by simp) rfl (fun q hq K N hK hN => ?_) ?_
            · have : ∃ z : Int, q = .int z := by
                simp only [List.mem_cons, List.not_mem_nil, or_false] at hq
                rcases hq with rfl | rfl | rfl <;> exact ⟨_, rfl⟩
              obtain ⟨z, rfl⟩ := this
              walk_at "dd"
              refine bool_ways (fun e => ?_) (fun e => ?_)
              · refine ite_ways (fun e2 => ?_) (fun e2 => ?_)
                · exact hK (by simp only [oT, e, Bool.true_and]; exact e2) _ rfl
                · exact hN (by simp only [oT, e, Bool.true_and]; exact e2) _ rfl
              · exact hK (by simp only [oT, e, Bool.false_and, Bool.not_false]) _ rfl
            refine ⟨by decide, ?_⟩
            refine ne_nil v2 (List.Sublist.cons _ List.filter_sublist) ?_
            refine ite_ways (fun e => ?_) (fun e5 => ?_)
            · obtain ⟨x, hx, e⟩ := fil_in e
              rw [judge_in ⟨x, hx, oT_th e⟩] at h
              exact h
            have all3 : ∀ z : Int, (.int z : D) ∈ ([.int i, .int j, .int k] : List D) → 0 ≤ z ∧ z < n := fun z hz => by
              have e5 : ([.int i, .int j, .int k] : List D).filter (oT n) = [] := by simpa using e5
              have := List.filter_eq_nil_iff.mp e5 _ hz
              simpa [oT] using this
            have hi := all3 i (by simp)
            have hj := all3 j (by simp)
            have hk := all3 k (by simp)
            have q1 := isTh_in hi.1 hi.2 (by omega)
            have q2 := isTh_in hj.1 hj.2 (by omega)
            have q3 := isTh_in hk.1 hk.2 (by omega)
            have mr := hC.row hi.1 hi.2
            try walk_at "dd"
            refine ixR hi.1 (by omega) ?_
            refine ⟨.str s, atI_zero, ?_⟩
            refine ⟨v3 _ (by simp), by decide +kernel, ?_⟩
            rw [eqv_str]
            refine ite_ways (fun e => ?_) (fun e6 => ?_)
            · have := isStr_eq e
              cases this
              rw [judge_yes (by simp) q1 q2 q3] at h
              simp only [brs, if_true] at h
              try simp only [dLt, dI2, true_and]
              refine bool_ways (fun e => ?_) (fun e => ?_)
              · rw [e] at h
                refine ixI hj.1 (by rw [mr.1]; exact hj.2) (ixI hk.1 (by rw [mr.1]; exact hk.2) ?_)
                refine ⟨rfl, rfl, ?_⟩
                rw [eqv_int]
                simpa [dt] using h
              · rw [e] at h
                simpa using h
            · refine ⟨.str s, atI_zero, ?_⟩
              refine ⟨v3 _ (by simp), by decide +kernel, ?_⟩
              rw [eqv_str]
              refine bool_ways (fun e => ?_) (fun e7 => ?_)
              · have := isStr_eq e
                cases this
                rw [judge_yes (by simp) q1 q2 q3] at h
                have a := dt_lt hC hj hk
                have b := mr.dl hj.1 hj.2
                have c := mr.dl hk.1 hk.2
                refine ixC hC hj hk (ixI a.1 (by rw [mr.1]; exact a.2) ?_)
                refine ixI hj.1 (by rw [mr.1]; exact hj.2) (ixR b.1 (by omega) (ixI hk.1 (by rw [mr.1]; exact hk.2) (ixI c.1 (by rw [(hC.row b.1 b.2).1]; exact c.2) ?_)))
                refine ⟨rfl, rfl, ?_⟩
                rw [eqv_int]
                simp only [brs, if_neg (show ¬ (("three" : Str) = "row") from by decide)] at h
                simpa [dt] using h
              · have : judge (brs C) W2 "shadow" n (.tuple [.str s, .int i, .int j, .int k]) = false := by
                  refine judge_other fun hs => ?_
                  rw [isStr_str] at e6 e7
                  simp only [List.mem_cons, List.not_mem_nil, or_false] at hs
                  rcases hs with rfl | rfl
                  · simp at e6
                  · simp at e7
                rw [this] at h
                exact h
        | _ =>
          rw [judge_nostr (by simp)] at h
          first | exact h | (walk_at "dd"; exact h)
  | _ => first | exact h | (walk_at "dd"; exact h)
theorem v__law_first_paper : VD g__law_first_paper S__law_first_paper 1 5 := fun ds Q _ h => by
  obtain ⟨C, n, rfl, hC, hn, h⟩ := h
  have cl := hC.1
  unfold g__law_first_paper
  walk_at "dd"
  rw [cl]
  refine ⟨⟨by omega, by omega, by omega, by omega⟩, ?_⟩
  refine ⟨by decide, ?_⟩
  have shw : ∀ {s : Str} {x y z : Int}, s ∈ W2 → x ∈ rgI n → y ∈ rgI n → z ∈ rgI n → judge (brs C) W2 "shadow" n (.tuple [.str s, .int x, .int y, .int z]) = brs C s x y z := fun hs hx hy hz => by
    have hx := mem_rgI.mp hx
    have hy := mem_rgI.mp hy
    have hz := mem_rgI.mp hz
    exact judge_yes hs (isTh_in hx.1 hx.2 (by omega)) (isTh_in hy.1 hy.2 (by omega)) (isTh_in hz.1 hz.2 (by omega))
  have eq : ∀ s, (rgI n).findSome? (fun x => (rgI n).findSome? fun y => (rgI n).findSome? fun z => if brs C s x y z = true then some (.tuple [.str s, .int x, .int y, .int z]) else none) = (t3 n).findSome? fun t => if brs C s t.1 t.2.1 t.2.2 = true then some (PyData.tuple [.str s, .int t.1, .int t.2.1, .int t.2.2]) else none := fun s => (fs_t3 (fun t => if brs C s t.1 t.2.1 t.2.2 = true then some (PyData.tuple [.str s, .int t.1, .int t.2.1, .int t.2.2]) else none)).symm
  have hf : W2.findSome? (fun s => (rgI n).findSome? (fun x => (rgI n).findSome? fun y => (rgI n).findSome? fun z => if brs C s x y z = true then some (.tuple [.str s, .int x, .int y, .int z]) else none)) = firstBrk C n := by
    unfold firstBrk
    congr 1
    funext s
    exact eq s
  refine wpFor_fs W2 PyData.str (fun s => (rgI n).findSome? (fun x => (rgI n).findSome? fun y => (rgI n).findSome? fun z => if brs C s x y z = true then some (.tuple [.str s, .int x, .int y, .int z]) else none)) (fun ρ => ∃ x2 x3 x4 x5, ρ = [some (.im (tR C)), some (.im (.list ((rgI n).map PyData.int))), x2, x3, x4, x5]) ⟨_, _, _, _, rfl⟩ (fun s hs ρ K B hI hq hk => ?_) (fun v hv => ?_) (fun hv ρ hI => ?_)
  · obtain ⟨x2, x3, x4, x5, rfl⟩ := hI
    walk_at "dd"
    refine wpFor_fs (rgI n) PyData.int (fun x => (rgI n).findSome? fun y => (rgI n).findSome? fun z => if brs C s x y z = true then some (.tuple [.str s, .int x, .int y, .int z]) else none) (fun ρ => ∃ x3 x4 x5, ρ = [some (.im (tR C)), some (.im (.list ((rgI n).map PyData.int))), some (.im (.str s)), x3, x4, x5]) ⟨_, _, _, rfl⟩ (fun x hx ρ K1 B1 hI1 hq1 hk1 => ?_) hq (fun hv ρ hI1 => ?_)
    · obtain ⟨x3, x4, x5, rfl⟩ := hI1
      walk_at "dd"
      refine wpFor_fs (rgI n) PyData.int (fun y => (rgI n).findSome? fun z => if brs C s x y z = true then some (.tuple [.str s, .int x, .int y, .int z]) else none) (fun ρ => ∃ x4 x5, ρ = [some (.im (tR C)), some (.im (.list ((rgI n).map PyData.int))), some (.im (.str s)), some (.im (.int x)), x4, x5]) ⟨_, _, rfl⟩ (fun y hy ρ K2 B2 hI2 hq2 hk2 => ?_) hq1 (fun hv ρ hI2 => ?_)
      · obtain ⟨x4, x5, rfl⟩ := hI2
        walk_at "dd"
        refine wpFor_fs (rgI n) PyData.int (fun z => if brs C s x y z = true then some (.tuple [.str s, .int x, .int y, .int z]) else none) (fun ρ => ∃ x5, ρ = [some (.im (tR C)), some (.im (.list ((rgI n).map PyData.int))), some (.im (.str s)), some (.im (.int x)), some (.im (.int y)), x5]) ⟨_, rfl⟩ (fun z hz ρ K3 B3 hI3 hq3 hk3 => ?_) hq2 (fun hv ρ hI3 => ?_)
        · obtain ⟨x5, rfl⟩ := hI3
          walk_at "dd"
          refine ⟨by decide, C, n, _, rfl, hC, hn, okV_tup (by simp) (fun d hd => ?_), ?_⟩
          · simp only [List.mem_cons, List.not_mem_nil, or_false] at hd hs
            rcases hd with rfl | rfl | rfl | rfl
            · rcases hs with rfl | rfl <;> exact fl_str (by decide +kernel)
            all_goals exact fl_int _
          rw [shw hs hx hy hz]
          refine ite_ways (fun e => ?_) (fun e => ?_)
          · exact ⟨by decide, hq3 _ (if_pos e)⟩
          · exact hk3 (if_neg (by rw [e]; simp)) _ ⟨_, rfl⟩
        · obtain ⟨x5, rfl⟩ := hI3
          exact hk2 hv _ ⟨_, _, rfl⟩
      · obtain ⟨x4, x5, rfl⟩ := hI2
        exact hk1 hv _ ⟨_, _, _, rfl⟩
    · obtain ⟨x3, x4, x5, rfl⟩ := hI1
      exact hk hv _ ⟨_, _, _, _, rfl⟩
  · rw [hf] at hv
    unfold papOf at h
    rw [hv] at h
    exact h
  · obtain ⟨x2, x3, x4, x5, rfl⟩ := hI
    rw [hf] at hv
    unfold papOf at h
    rw [hv] at h
    try walk_at "dd"
    exact ⟨by decide, h⟩
end Dn.K69
set_option Elab.async false
set_option linter.all false
set_option maxRecDepth 100000
set_option autoImplicit false
set_option maxHeartbeats 4000000
namespace Dn.K69
open PySem L2 Evl PySem.Spec PyProof.Rows
local macro_rules | `(tactic| walk_at "dd") => `(tactic| simp only [sSeq, sIf, sSet, sRet, sRetN, sNx, sEx, sAsg, sPar, dTOr, dTAnd, dTNot, dTst, dIsi, dVar, dC, dBin, dChain, dNeg, dI2, dAnd, dOr, dNot, dIfE, dCall, dCallF, aCons, aNil, dTup, lLst, dOfL, xIm, xOw, gNm, gTp, gsCons, gsNil, dYes, envD, dLen_tR, dLen_tI, dLen_tup, dLen_lst, seq_tR, seq_tI, seq_tup, seq_lst, dIs, dIsNot, dNe, dEq, dTupOf, dSl, oNone, oSome, iSq, iEn, iR1, iR2, sFor, lLc, sNever, dTRg, rg1, rg2, lRg, wipeD, isN, optD,
  gTpL, dIxP, sSub, dApp, dPopAt, dExt, dCallM, dCallO, dBinO, dTupO, lOf, lOfO, sRetO, iOw, dVarF, lCat, lCall, dAbs, dMax2, dMin2, dInt, atO, setO, MO.getL, MO.putL, Option.isSome_some,
  dInK, dGetK, dGetD, dInD, dGet1, lKeys, lSort, dLenSet, dLenSetL, dLenSet2, sPar3, dRevT, sPutK, xDct, xDct1, sRetK, atK, keyD, sAugI,
  kit_int, kit_bool, kit_tuple, kit_str, List.map_cons, List.map_nil, List.cons_append, List.nil_append, List.replicate, List.set_cons_zero, List.set_cons_succ, List.getElem?_cons_zero, List.getElem?_cons_succ, List.length_cons, List.length_nil, List.length_map, Nat.reduceAdd, Nat.reduceSub, Bool.not_true, Bool.not_false, Bool.false_eq_true, if_true, if_false, true_and, reduceCtorEq, Bool.true_eq_false, rgD_rgI, Option.some.injEq, exists_eq_left', and_true])
theorem v__law_left_of : VD g__law_left_of S__law_left_of 1 2 := fun ds Q _ h => by
  obtain ⟨R, n, rfl, hR, hn, h⟩ := h
  have rl := hR.1
  unfold g__law_left_of
  walk_at "dd"
  refine ⟨_, rfl, ?_⟩
  refine wpLc_mapL R tPs (fun r => tI (r.map (·.1))) (by omega) rfl (fun r hr K hK => ?_) (fun _ => rfl) ?_
  · have hr := hR.2 r hr
    walk_at "dd"
    refine ⟨_, rfl, ?_⟩
    refine wpLc_mapL r tP (fun p => .int p.1) (by omega) rfl (fun p hp K2 hK2 => ?_) (fun _ => rfl) ?_
    · walk_at "dd"
      exact ixP0 (hK2 _ rfl)
    · try walk_at "dd"
      rw [show (PyData.tuple (r.map fun p => .int p.1)) = tI (r.map (·.1)) from by unfold tI; simp only [List.map_map, Function.comp_def]]
      exact hK _ rfl
  · rw [tL_map]
    refine h _ ⟨by simp [rl], fun m hm => ?_⟩
    obtain ⟨r, hr, rfl⟩ := List.mem_map.mp hm
    have hr := hR.2 r hr
    refine ⟨by simp [hr.1], fun x hx => ?_⟩
    obtain ⟨p, hp, rfl⟩ := List.mem_map.mp hx
    exact (hr.2 p hp).1
theorem v__law_right_of : VD g__law_right_of S__law_right_of 1 2 := fun ds Q _ h => by
  obtain ⟨R, n, rfl, hR, hn, h⟩ := h
  have rl := hR.1
  unfold g__law_right_of
  walk_at "dd"
  rw [dLen_tRP, rl]
  refine ⟨rgd (by omega), ?_⟩
  rw [rgD_rgI]
  refine wpLc_mapL (rgI n) PyData.int (fun y => tI ((rgI n).map fun x => (pa R x y).2)) (by rw [rgI_len]; omega) rfl (fun y hy K hK => ?_) (fun _ => rfl) ?_
  · have hy := mem_rgI.mp hy
    walk_at "dd"
    rw [dLen_tRP, rl]
    refine ⟨rgd (by omega), ?_⟩
    rw [rgD_rgI]
    refine wpLc_mapL (rgI n) PyData.int (fun x => .int (pa R x y).2) (by rw [rgI_len]; omega) rfl (fun x hx K2 hK2 => ?_) (fun _ => rfl) ?_
    · have hx := mem_rgI.mp hx
      walk_at "dd"
      exact ixPa hR hx hy (ixP1 (hK2 _ rfl))
    · try walk_at "dd"
      rw [tI_map]
      exact hK _ rfl
  · rw [tL_map]
    refine h _ ⟨by simp [rgI_len], fun m hm => ?_⟩
    obtain ⟨y, hy, rfl⟩ := List.mem_map.mp hm
    have hy := mem_rgI.mp hy
    refine ⟨by simp [rgI_len], fun z hz => ?_⟩
    obtain ⟨x, hx, rfl⟩ := List.mem_map.mp hz
    have hx := mem_rgI.mp hx
    exact (pa_lt hR hx hy).2
theorem v__law_shadow_rows : VD g__law_shadow_rows S__law_shadow_rows 1 7 := fun ds Q _ h => by
  obtain ⟨R, n, rfl, hR, hn, h⟩ := h
  have rl := hR.1
  unfold g__law_shadow_rows
  walk_at "dd"
  refine ⟨R, n, rfl, hR, hn, fun L hL => ?_⟩
  refine ⟨R, n, rfl, hR, hn, fun M hM => ?_⟩
  refine ⟨by decide, ?_⟩
  rw [dLen_tRP, rl]
  refine ⟨rgd (by omega), ?_⟩
  rw [rgD_rgI]
  have ll := hL.1
  have ml := hM.1
  refine wpFor_cps (fun done ρ => ∃ (acc : List (List Int)) (a b c d : Option SV), acc.length = done.length ∧ (∀ m, m ∈ acc → Mv n m) ∧ ρ = [some (.im (tRP R)), some (.im (tL L)), some (.im (tL M)), some (.ow (.lst (acc.map tI))), a, b, c, d]) ⟨[], _, _, _, _, rfl, by simp, rfl⟩ (fun done d rest ρ K e p k => ?_) (fun ρ p => ?_)
  · obtain ⟨acc, a, b, c, d', al, am, rfl⟩ := p
    have hd : d ∈ (rgI n).map PyData.int := by rw [e]; simp
    have len := congrArg List.length e
    simp [rgI_len] at len
    obtain ⟨x, rfl, hx⟩ := mem_rgM hd
    walk_at "dd"
    rw [dLen_tRP, rl]
    refine ⟨by decide, ?_⟩
    refine ⟨rgd (by omega), ?_⟩
    rw [rgD_rgI]
    refine wpFor_cps (fun done ρ => ∃ (row : List Int) (c d : Option SV), row.length = done.length ∧ (∀ z, z ∈ row → 0 ≤ z ∧ z < n) ∧ ρ = [some (.im (tRP R)), some (.im (tL L)), some (.im (tL M)), some (.ow (.lst (acc.map tI))), some (.im (.int x)), some (.ow (.lst (row.map PyData.int))), c, d]) ⟨[], _, _, rfl, by simp, rfl⟩ (fun done2 d2 rest2 ρ K2 e2 p2 k2 => ?_) (fun ρ p2 => ?_)
    · obtain ⟨row, c, d', al2, am2, rfl⟩ := p2
      have hd2 : d2 ∈ (rgI n).map PyData.int := by rw [e2]; simp
      have len2 := congrArg List.length e2
      simp [rgI_len] at len2
      obtain ⟨y, rfl, hy⟩ := mem_rgM hd2
      walk_at "dd"
      have hLy := hL.row hy.1 hy.2
      have hLx := hL.row hx.1 hx.2
      refine ixL hy.1 (by omega) ?_
      refine ⟨_, rfl, by rw [hLy.1]; omega, by rw [hLy.1]; exact hLy.2, fun u ul um => ?_⟩
      rw [hLy.1] at ul um
      have hu : Mv n u := ⟨ul, um⟩
      refine ixI hx.1 (by omega) ?_
      have hz := hu.dl hx.1 hx.2
      refine ixL hx.1 (by omega) ?_
      refine ixL hz.1 (by omega) ?_
      have hMz := hM.row hz.1 hz.2
      refine ixI hy.1 (by rw [hMz.1]; exact hy.2) ?_
      have hw := hMz.dl hy.1 hy.2
      refine ixI hw.1 (by rw [hLx.1]; exact hw.2) ?_
      have hv := hLx.dl hw.1 hw.2
      refine ⟨by first | omega | (simp; omega), ?_⟩
      refine k2 _ ⟨row ++ [_], _, _, by simp [al2], fun z hz => ?_, by rw [List.map_append, List.map_cons, List.map_nil]⟩
      rcases List.mem_append.mp hz with hz | hz
      · exact am2 z hz
      · rw [List.mem_singleton.mp hz]; exact hv
    · obtain ⟨row, c, d', al2, am2, rfl⟩ := p2
      rw [List.length_map, rgI_len] at al2
      walk_at "dd"
      refine ⟨by first | omega | (simp; omega), ?_⟩
      refine k _ ⟨acc ++ [row], _, _, _, _, by simp [al], fun m hm => ?_, by rw [List.map_append, List.map_cons, List.map_nil]; rfl⟩
      rcases List.mem_append.mp hm with hm | hm
      · exact am m hm
      · rw [List.mem_singleton.mp hm]; exact ⟨al2, am2⟩
  · obtain ⟨acc, a, b, c, d', al, am, rfl⟩ := p
    rw [List.length_map, rgI_len] at al
    try walk_at "dd"
    exact h acc ⟨al, am⟩
theorem v__law_fair_rows : VM g__law_fair_rows S__law_fair_rows 3 12 := fun l ms ds Q _ h => by
  obtain ⟨least, most, rfl, l1, m1, m2, lm, hm, h⟩ := h
  unfold g__law_fair_rows
  walk_at "dd"
  refine ⟨6, rfl, by decide, by decide, hm, fun way ms1 w0 w1 hm1 => ?_⟩
  simp only [dAdd]
  refine ⟨_, rfl, by omega, by simp only [T60]; omega, hm1, fun r ms2 r0 r1 hm2 => ?_⟩
  simp only [dAdd]
  obtain ⟨n, hn⟩ : ∃ n : Nat, (least : Int) + r = n := ⟨((least : Int) + r).toNat, by omega⟩
  rw [hn]
  have hn5 : n ≤ most := by omega
  have mvp : ∀ m : List Int, m.Perm (rgI n) → Mv n m := fun m hp => ⟨by rw [hp.length_eq, rgI_len], fun x hx => mem_rgI.mp (hp.mem_iff.mp hx)⟩
  refine ⟨rfl, rfl, ?_⟩
  rw [eqv_int]
  refine ite_ways (fun z => ?_) (fun z => ?_)
  · refine ⟨n, rfl, by omega, hm2, fun m ms3 hp hm3 => ?_⟩
    refine ⟨5, rfl, by decide, by decide, hm3, fun a ms4 a0 a1 hm4 => ?_⟩
    obtain ⟨a, rfl⟩ : ∃ k : Nat, a = k := ⟨a.toNat, by omega⟩
    refine ⟨m, n, a, rfl, mvp m hp, by omega, by omega, fun c1 hc1 => ?_⟩
    refine ⟨5, rfl, by decide, by decide, hm4, fun b ms5 b0 b1 hm5 => ?_⟩
    obtain ⟨b, rfl⟩ : ∃ k : Nat, b = k := ⟨b.toNat, by omega⟩
    refine ⟨m, n, b, rfl, mvp m hp, by omega, by omega, fun c2 hc2 => ?_⟩
    refine ⟨rgd (by omega), ?_⟩
    rw [rgD_rgI]
    refine wpLc_mapL (rgI n) PyData.int (fun x => tPs ((rgI n).map fun y => (c1.getD y.toNat 0, c2.getD x.toNat 0))) (by rw [rgI_len]; omega) rfl (fun x hx K hK => ?_) (fun _ => rfl) ?_
    · obtain ⟨x0, x1⟩ := mem_rgI.mp hx
      try walk_at "dd"
      refine ⟨rgd (by omega), ?_⟩
      refine wpLc_mapL (rgI n) PyData.int (fun y => tP (c1.getD y.toNat 0, c2.getD x.toNat 0)) (by rw [rgI_len]; omega) rfl (fun y hy K hK => ?_) (fun _ => rfl) ?_
      · obtain ⟨y0, y1⟩ := mem_rgI.mp hy
        try walk_at "dd"
        exact ixI y0 (by rw [hc1.1]; exact y1) (ixI x0 (by rw [hc2.1]; exact x1) ⟨by decide, hK _ rfl⟩)
      · try walk_at "dd"
        rw [tPs_map]
        exact hK _ rfl
    · try walk_at "dd"
      rw [tRP_map]
      refine ⟨_, rfl, h _ n _ ⟨by simp [rgI_len], fun r hr => ?_⟩ (by omega) hn5 hm5⟩
      obtain ⟨x, hx, rfl⟩ := List.mem_map.mp hr
      obtain ⟨x0, x1⟩ := mem_rgI.mp hx
      refine ⟨by simp [rgI_len], fun p hp => ?_⟩
      obtain ⟨y, hy, rfl⟩ := List.mem_map.mp hp
      obtain ⟨y0, y1⟩ := mem_rgI.mp hy
      exact ⟨hc1.dl y0 y1, hc2.dl x0 x1⟩
  · refine ⟨rfl, rfl, ?_⟩
    rw [eqv_int]
    refine ite_ways (fun z1 => ?_) (fun z1 => ?_)
    · refine ⟨by decide, _, _, rfl, rfl, by decide, by decide, hm2, fun t ms3 ht hm3 => ?_⟩
      obtain ⟨t, rfl, t0, t1⟩ : ∃ k : Int, t = .int k ∧ -1 ≤ k ∧ k ≤ 2 := by
        simp only [List.mem_cons, List.not_mem_nil, or_false] at ht
        rcases ht with rfl | rfl | rfl | rfl
        all_goals exact ⟨_, rfl, by decide, by decide⟩
      simp only [dLt, dI2, true_and]
      refine ite_ways (fun z2 => ?_) (fun z2 => ?_)
      · refine ⟨rgd (by omega), ?_⟩
        rw [rgD_rgI]
        refine wpLc_mapL (rgI n) PyData.int (fun x => tPs ((rgI n).map fun y => ((x + t * y - t * x) % n, x))) (by rw [rgI_len]; omega) rfl (fun x hx K hK => ?_) (fun _ => rfl) ?_
        · obtain ⟨x0, x1⟩ := mem_rgI.mp hx
          try walk_at "dd"
          refine ⟨rgd (by omega), ?_⟩
          refine wpLc_mapL (rgI n) PyData.int (fun y => tP ((x + t * y - t * x) % n, x)) (by rw [rgI_len]; omega) rfl (fun y hy K hK => ?_) (fun _ => rfl) ?_
          · obtain ⟨y0, y1⟩ := mem_rgI.mp hy
            try walk_at "dd"
            exact ⟨cm_l ⟨by omega, by omega⟩, cm_l ⟨by omega, by omega⟩, trivial, (show (0 : Int) < n by omega), by decide, hK _ rfl⟩
          · try walk_at "dd"
            rw [tPs_map]
            exact hK _ rfl
        · try walk_at "dd"
          rw [tRP_map]
          let RR := (rgI n).map fun x => (rgI n).map fun y => ((x + t * y - t * x) % (n : Int), x)
          have hR : Pw n RR := by
            refine ⟨by simp [RR, rgI_len], fun r hr => ?_⟩
            obtain ⟨x, hx, rfl⟩ := List.mem_map.mp hr
            obtain ⟨x0, x1⟩ := mem_rgI.mp hx
            refine ⟨by simp [rgI_len], fun p hp => ?_⟩
            obtain ⟨y, hy, rfl⟩ := List.mem_map.mp hp
            obtain ⟨y0, y1⟩ := mem_rgI.mp hy
            exact ⟨⟨Int.emod_nonneg _ (by omega), Int.emod_lt_of_pos _ (by omega)⟩, x0, x1⟩
          refine ⟨n, rfl, by omega, hm3, fun m ms5 hp hm5 => ?_⟩
          exact ⟨RR, m, n, rfl, hR, mvp m hp, by omega, fun R2 hR2 => ⟨_, rfl, h R2 n _ hR2 (by omega) (by omega) hm5⟩⟩
      · refine ⟨(show (0 : Int) < 2 by decide), rfl, rfl, ?_⟩
        refine ite_ways (fun z3 => ?_) (fun z3 => ?_)
        · refine ⟨rgd (by omega), ?_⟩
          rw [rgD_rgI]
          refine wpLc_mapL (rgI n) PyData.int (fun x => tPs ((rgI n).map fun y => ((x + t * y - t * x) % n, x))) (by rw [rgI_len]; omega) rfl (fun x hx K hK => ?_) (fun _ => rfl) ?_
          · obtain ⟨x0, x1⟩ := mem_rgI.mp hx
            try walk_at "dd"
            refine ⟨rgd (by omega), ?_⟩
            refine wpLc_mapL (rgI n) PyData.int (fun y => tP ((x + t * y - t * x) % n, x)) (by rw [rgI_len]; omega) rfl (fun y hy K hK => ?_) (fun _ => rfl) ?_
            · obtain ⟨y0, y1⟩ := mem_rgI.mp hy
              try walk_at "dd"
              exact ⟨cm_l ⟨by omega, by omega⟩, cm_l ⟨by omega, by omega⟩, trivial, (show (0 : Int) < n by omega), by decide, hK _ rfl⟩
            · try walk_at "dd"
              rw [tPs_map]
              exact hK _ rfl
          · try walk_at "dd"
            rw [tRP_map]
            let RR := (rgI n).map fun x => (rgI n).map fun y => ((x + t * y - t * x) % (n : Int), x)
            have hR : Pw n RR := by
              refine ⟨by simp [RR, rgI_len], fun r hr => ?_⟩
              obtain ⟨x, hx, rfl⟩ := List.mem_map.mp hr
              obtain ⟨x0, x1⟩ := mem_rgI.mp hx
              refine ⟨by simp [rgI_len], fun p hp => ?_⟩
              obtain ⟨y, hy, rfl⟩ := List.mem_map.mp hp
              obtain ⟨y0, y1⟩ := mem_rgI.mp hy
              exact ⟨⟨Int.emod_nonneg _ (by omega), Int.emod_lt_of_pos _ (by omega)⟩, x0, x1⟩
            refine ⟨n, rfl, by omega, hm3, fun m ms5 hp hm5 => ?_⟩
            exact ⟨RR, m, n, rfl, hR, mvp m hp, by omega, fun R2 hR2 => ⟨_, rfl, h R2 n _ hR2 (by omega) (by omega) hm5⟩⟩
        · refine ⟨rgd (by omega), ?_⟩
          rw [rgD_rgI]
          refine wpLc_mapL (rgI n) PyData.int (fun x => tPs ((rgI n).map fun y => ((x + (-1 : Int) * y - (-1 : Int) * x) % n, x))) (by rw [rgI_len]; omega) rfl (fun x hx K hK => ?_) (fun _ => rfl) ?_
          · obtain ⟨x0, x1⟩ := mem_rgI.mp hx
            try walk_at "dd"
            refine ⟨rgd (by omega), ?_⟩
            refine wpLc_mapL (rgI n) PyData.int (fun y => tP ((x + (-1 : Int) * y - (-1 : Int) * x) % n, x)) (by rw [rgI_len]; omega) rfl (fun y hy K hK => ?_) (fun _ => rfl) ?_
            · obtain ⟨y0, y1⟩ := mem_rgI.mp hy
              try walk_at "dd"
              exact ⟨cm_l ⟨by omega, by omega⟩, cm_l ⟨by omega, by omega⟩, trivial, (show (0 : Int) < n by omega), by decide, hK _ rfl⟩
            · try walk_at "dd"
              rw [tPs_map]
              exact hK _ rfl
          · try walk_at "dd"
            rw [tRP_map]
            let RR := (rgI n).map fun x => (rgI n).map fun y => ((x + (-1 : Int) * y - (-1 : Int) * x) % (n : Int), x)
            have hR : Pw n RR := by
              refine ⟨by simp [RR, rgI_len], fun r hr => ?_⟩
              obtain ⟨x, hx, rfl⟩ := List.mem_map.mp hr
              obtain ⟨x0, x1⟩ := mem_rgI.mp hx
              refine ⟨by simp [rgI_len], fun p hp => ?_⟩
              obtain ⟨y, hy, rfl⟩ := List.mem_map.mp hp
              obtain ⟨y0, y1⟩ := mem_rgI.mp hy
              exact ⟨⟨Int.emod_nonneg _ (by omega), Int.emod_lt_of_pos _ (by omega)⟩, x0, x1⟩
            refine ⟨n, rfl, by omega, hm3, fun m ms5 hp hm5 => ?_⟩
            exact ⟨RR, m, n, rfl, hR, mvp m hp, by omega, fun R2 hR2 => ⟨_, rfl, h R2 n _ hR2 (by omega) (by omega) hm5⟩⟩
    · have h5 : ¬ (5 : Int) < most := by omega
      simp only [h5, decide_false, if_false, Bool.false_eq_true, ite_self]
      refine ⟨rfl, rfl, ?_⟩
      refine ⟨rfl, rfl, ?_⟩
      rw [eqv_int]
      refine ite_ways (fun z3 => ?_) (fun z3 => ?_)
      · simp only [dGt, dI2, true_and]
        refine ite_ways (fun z4 => ?_) (fun z4 => ?_)
        · refine ⟨rgd (by omega), ?_⟩
          rw [rgD_rgI]
          refine wpLc_mapL (rgI n) PyData.int (fun x => tPs ((rgI n).map fun y => (y, (2 * y - x) % n))) (by rw [rgI_len]; omega) rfl (fun x hx K hK => ?_) (fun _ => rfl) ?_
          · obtain ⟨x0, x1⟩ := mem_rgI.mp hx
            try walk_at "dd"
            refine ⟨rgd (by omega), ?_⟩
            refine wpLc_mapL (rgI n) PyData.int (fun y => tP (y, (2 * y - x) % n)) (by rw [rgI_len]; omega) rfl (fun y hy K hK => ?_) (fun _ => rfl) ?_
            · obtain ⟨y0, y1⟩ := mem_rgI.mp hy
              try walk_at "dd"
              exact ⟨cm_l ⟨by omega, by omega⟩, (show (0 : Int) < n by omega), by decide, hK _ rfl⟩
            · try walk_at "dd"
              rw [tPs_map]
              exact hK _ rfl
          · try walk_at "dd"
            rw [tRP_map]
            let RR := (rgI n).map fun x => (rgI n).map fun y => (y, (2 * y - x) % (n : Int))
            have hR : Pw n RR := by
              refine ⟨by simp [RR, rgI_len], fun r hr => ?_⟩
              obtain ⟨x, hx, rfl⟩ := List.mem_map.mp hr
              obtain ⟨x0, x1⟩ := mem_rgI.mp hx
              refine ⟨by simp [rgI_len], fun p hp => ?_⟩
              obtain ⟨y, hy, rfl⟩ := List.mem_map.mp hp
              obtain ⟨y0, y1⟩ := mem_rgI.mp hy
              exact ⟨⟨y0, y1⟩, Int.emod_nonneg _ (by omega), Int.emod_lt_of_pos _ (by omega)⟩
            refine ⟨n, rfl, by omega, hm2, fun m ms5 hp hm5 => ?_⟩
            exact ⟨RR, m, n, rfl, hR, mvp m hp, by omega, fun R2 hR2 => ⟨_, rfl, h R2 n _ hR2 (by omega) (by omega) hm5⟩⟩
        · exact ⟨least, most, rfl, m1, by omega, lm, hm2, fun C n' ms3 hC a1 a2 hm3 => ⟨C, n', rfl, hC, by omega, fun R hR => ⟨_, rfl, h R n' _ hR a1 a2 hm3⟩⟩⟩
      · exact ⟨least, most, rfl, m1, by omega, lm, hm2, fun C n' ms3 hC a1 a2 hm3 => ⟨C, n', rfl, hC, by omega, fun R hR => ⟨_, rfl, h R n' _ hR a1 a2 hm3⟩⟩⟩
end Dn.K69
set_option Elab.async false
set_option linter.all false
set_option maxRecDepth 100000
set_option autoImplicit false
set_option maxHeartbeats 4000000
namespace Dn
open PySem L2 Evl PySem.Spec PyProof.Rows
local macro_rules | `(tactic| walk_at "dd") => `(tactic| simp only [sSeq, sIf, sSet, sRet, sRetN, sNx, sEx, sAsg, sPar, dTOr, dTAnd, dTNot, dTst, dIsi, dVar, dC, dBin, dChain, dNeg, dI2, dAnd, dOr, dNot, dIfE, dCall, dCallF, aCons, aNil, dTup, lLst, dOfL, xIm, xOw, gNm, gTp, gsCons, gsNil, dYes, envD, dLen_tR, dLen_tI, dLen_tup, dLen_lst, seq_tR, seq_tI, seq_tup, seq_lst, dIs, dIsNot, dNe, dEq, dTupOf, dSl, oNone, oSome, iSq, iEn, iR1, iR2, sFor, lLc, sNever, dTRg, rg1, rg2, lRg, wipeD, isN, optD,
  gTpL, dIxP, sSub, dApp, dPopAt, dExt, dCallM, dCallO, dBinO, dTupO, lOf, lOfO, sRetO, iOw, dVarF, lCat, lCall, dAbs, dMax2, dMin2, dInt, atO, setO, MO.getL, MO.putL, Option.isSome_some,
  dInK, dGetK, dGetD, dInD, dGet1, lKeys, lSort, dLenSet, dRevT, sPutK, xDct, xDct1, sRetK, atK, keyD, sAugI,
  kit_int, kit_bool, kit_tuple, kit_str, List.map_cons, List.map_nil, List.cons_append, List.nil_append, List.replicate, List.set_cons_zero, List.set_cons_succ, List.getElem?_cons_zero, List.getElem?_cons_succ, List.length_cons, List.length_nil, List.length_map, Nat.reduceAdd, Nat.reduceSub, Bool.not_true, Bool.not_false, Bool.false_eq_true, if_true, if_false, true_and, reduceCtorEq, Bool.true_eq_false, rgD_rgI, Option.some.injEq, exists_eq_left', and_true])
def EE (P : D → Prop) (e : DE) (ρ : Env) : Prop := ∀ Q : D → Env → Prop, (∀ d, P d → Q d ρ) → e ρ Q
def AE (P : D → Prop) (k : Nat) (a : DA) (ρ : Env) : Prop := ∀ Q : List D → Env → Prop, (∀ ds, ds.length = k → (∀ d, d ∈ ds → P d) → Q ds ρ) → a ρ Q
theorem ae_nil {P : D → Prop} {ρ : Env} : AE P 0 aNil ρ := fun _ h => h [] rfl (by simp)
theorem ae_cons {P : D → Prop} {k : Nat} {e : DE} {a : DA} {ρ : Env} (h1 : EE P e ρ) (h2 : AE P k a ρ) : AE P (k + 1) (aCons e a) ρ := fun Q hq => h1 _ fun d pd => h2 _ fun ds hl hd => hq _ (by simp [hl]) fun x hx => by
  rcases List.mem_cons.mp hx with rfl | hx
  · exact pd
  · exact hd x hx
theorem ee_tup {k : Nat} {a : DA} {ρ : Env} (h : AE Fl k a ρ) (hk : k ≤ 1000 := by decide) : EE okV (dTup a) ρ := fun Q hq => h _ fun ds hl hd => ⟨by omega, hq _ (okV_tup (by omega) hd)⟩
theorem ee_c {P : D → Prop} {d : D} {ρ : Env} (h : P d) : EE P (dC d) ρ := fun _ hq => hq d h
theorem ee_neg {P : D → Prop} {i : Int} {ρ : Env} (h : P (.int (-i))) : EE P (dNeg (dC (.int i))) ρ := fun _ hq => hq _ h
theorem ee_v {P : D → Prop} {i : Nat} {d : D} {ρ : Env} (e : ρ[i]? = some (some (.im d))) (h : P d) : EE P (dVar i) ρ := fun Q hq => by
  unfold dVar
  rw [e]
  exact hq d h
theorem wpFor_n {g : DG} {body : DS} {E : DEnds} {ds : List D} {ρ0 : Env} (I : Nat → Env → Prop) (h0 : I 0 ρ0)
    (hs : ∀ d, d ∈ ds → ∀ (k : Nat) (ρ : Env) (K : Env → Prop), k < ds.length → I k ρ → (∀ ρ', I (k + 1) ρ' → K ρ') → g d ρ fun ρ1 => body { nx := K, ct := K, bk := E.nx, rt := E.rt } ρ1)
    (he : ∀ ρ, I ds.length ρ → E.nx ρ) : wpFor g body E ds ρ0 :=
  wpFor_cps (fun done ρ => I done.length ρ) h0 (fun done d rest ρ K e p k => hs d (by rw [e]; simp) _ ρ K (by rw [e]; simp) p fun ρ' q => k ρ' (by simpa using q)) he
/-- the values so far -/
def Vs (L : List D) (k : Nat) : Prop := (∀ v, v ∈ L → okV v) ∧ L.length ≤ k
theorem Vs.app {L M : List D} {j k : Nat} (h : Vs L j) (h2 : ∀ v, v ∈ M → okV v) (l : M.length ≤ k) : Vs (L ++ M) (j + k) := ⟨fun v hv => (List.mem_append.mp hv).elim (h.1 v) (h2 v), by rw [List.length_append]; have := h.2; omega⟩
theorem Vs.one {L : List D} {j : Nat} {v : D} (h : Vs L j) (h2 : okV v) : Vs (L ++ [v]) (j + 1) := h.app (fun x hx => by rw [List.mem_singleton.mp hx]; exact h2) (by simp)
theorem paper_shape {ws : List Str} {fine : Str} {n : Nat} {p : D} (hf : Fl (.str fine)) (hw : ∀ s, s ∈ ws → Fl (.str s)) (h : IsPap ws fine n p) : ∃ xs, p = .tuple xs ∧ xs.length ≤ 4 ∧ ∀ x, x ∈ xs → Fl x := by
  rcases h with rfl | ⟨s, x, y, z, hs, _, rfl⟩
  · exact ⟨_, rfl, by simp, fun x hx => by rw [List.mem_singleton.mp hx]; exact hf⟩
  · refine ⟨_, rfl, by simp, fun d hd => ?_⟩
    simp only [List.mem_cons, List.not_mem_nil, or_false] at hd
    rcases hd with rfl | rfl | rfl | rfl
    · exact hw s hs
    all_goals exact fl_int _
theorem cat_disp {i k : Nat} {ρ : Env} {L : List D} {a : DA} {Q : List D → Env → Prop} (e : ρ[i]? = some (some (.ow (.lst L)))) (h : AE okV k a (ρ.set i (some (.im (.list L))))) (hl : L.length + k ≤ 16777216)
    (hq : ∀ M, M.length = k → (∀ v, v ∈ M → okV v) → Q (L ++ M) (ρ.set i (some (.im (.list L))))) : lCat (dVarF i) (dOfL (lLst a)) ρ Q := by
  unfold lCat dVarF
  rw [e]
  exact h _ fun M hm hM => ⟨by omega, L, M, rfl, rfl, by omega, hq M hm hM⟩
theorem ext_disp {i k : Nat} {ρ : Env} {L : List D} {a : DA} {Q : D → Env → Prop} (e : atO ρ i = some L) (h : AE okV k a ρ) (hl : L.length + k ≤ 16777216)
    (hq : ∀ M, M.length = k → (∀ v, v ∈ M → okV v) → Q .none (setO ρ i (L ++ M))) : dExt i (dOfL (lLst a)) ρ Q := by
  unfold dExt
  rw [e]
  exact ⟨rfl, h _ fun M hm hM => ⟨by omega, L, M, e, rfl, by omega, hq M hm hM⟩⟩
theorem app_one {i : Nat} {ρ : Env} {L : List D} {f : DE} {Q : D → Env → Prop} (e : atO ρ i = some L) (h : EE okV f ρ) (hl : L.length < 16777216)
    (hq : ∀ v, okV v → Q .none (setO ρ i (L ++ [v]))) : dApp i f ρ Q := by
  unfold dApp
  rw [e]
  exact ⟨rfl, h _ fun v hv => ⟨L, e, hl, hq v hv⟩⟩
theorem sIf_any {i : Nat} {ρ : Env} {n c : Int} {A B : DS} {E : DEnds} (e : ρ[i]? = some (some (.im (.int n)))) (h1 : A E ρ) (h2 : B E ρ) : sIf (dTst (dBin dGt (dVar i) (dC (.int c)))) A B E ρ := by
  simp only [sIf, dTst, dBin, dVar, dC]
  rw [e]
  simp only [dGt, dI2, true_and]
  split
  · exact h1
  · exact h2
theorem v__law_values : VM g__law_values S__law_values 4 8 := fun l ms ds Q _ h => by
  obtain ⟨n, ws, fine, p, rfl, hn, hws, hfine, hp, hm, h⟩ := h
  have wsF : ∀ s, s ∈ ws → Fl (.str s) := by
    rcases hws with rfl | rfl <;> intro s hs <;> simp only [List.mem_cons, List.not_mem_nil, or_false] at hs
    · rcases hs with rfl | rfl | rfl <;> exact fl_str (by decide +kernel)
    · rcases hs with rfl | rfl <;> exact fl_str (by decide +kernel)
  have fF : Fl (.str fine) := by rcases hfine with rfl | rfl <;> exact fl_str (by decide +kernel)
  obtain ⟨xs, rfl, xl, xf⟩ := paper_shape fF wsF hp
  have w1 : ∃ w0 wr, ws = w0 :: wr ∧ wr.length ≤ 2 := by rcases hws with rfl | rfl <;> exact ⟨_, _, rfl, by simp⟩
  obtain ⟨w0, wr, rfl, wl⟩ := w1
  clear hp hws
  unfold g__law_values
  simp only [sSeq, sSet, xOw, lLst]
  have pv : okV (.tuple xs) := okV_tup (by omega) xf
  let ρ0 : Env := [some (SV.ow (MO.par l (MO.lst ms))), some (SV.im (PyData.int n)), some (SV.im (PyData.list (PyData.str w0 :: wr.map PyData.str))), some (SV.im (PyData.tuple xs)), none, none, none, none, none, none, none, none]
  have first : AE okV 12 (aCons (dVar 3) (aCons (dOfL (lOf (dVar 3))) (aCons (dBin dAdd (dVar 3) (dTup (aCons (dC (.int 0)) (aNil)))) (aCons (dSl (dVar 3) (oNone) (oSome (dNeg (dC (.int 1))))) (aCons (dTup (aNil)) (aCons (dC .none) (aCons (dC (.int 3)) (aCons (dC (.str "fair")) (aCons (dC (.dict [])) (aCons (dTup (aCons (dC (.str "fair")) (aCons (dC (.int 0)) (aNil)))) (aCons (dTup (aCons (dC (.int 0)) (aNil))) (aCons (dTup (aCons (dTup (aCons (dC (.str "fair")) (aNil))) (aNil))) (aNil))))))))))))) ρ0 := by
    have fair : Fl (.str "fair") := fl_str (by decide +kernel)
    refine ae_cons (ee_v rfl pv) (ae_cons (fun Q hq => ?_) (ae_cons (fun Q hq => ?_) (ae_cons (fun Q hq => ?_) (ae_cons (ee_tup ae_nil) (ae_cons (ee_c (okV_no (by simp))) (ae_cons (ee_c (okV_no (by simp))) (ae_cons (ee_c (okV_no (by simp))) (ae_cons (ee_c (okV_no (by simp)))
      (ae_cons (ee_tup (ae_cons (ee_c fair) (ae_cons (ee_c (fl_int 0)) ae_nil))) (ae_cons (ee_tup (ae_cons (ee_c (fl_int 0)) ae_nil)) (ae_cons (ee_tup (ae_cons (fun Q hq => ⟨by decide, hq _ ⟨by decide +kernel, by decide +kernel⟩⟩) ae_nil)) ae_nil)))))))))))
    · exact hq _ (okV_no (by simp))
    · refine ⟨by decide, ?_⟩
      refine ⟨by show xs.length + 1 ≤ 16777216; omega, hq _ (okV_tup (by simp; omega) fun x hx => ?_)⟩
      rcases List.mem_append.mp hx with hx | hx
      · exact xf x hx
      · rw [List.mem_singleton.mp hx]; exact fl_int 0
    · refine hq (.tuple (cutD xs none (some (-1)))) (okV_tup ?_ fun x hx => ?_)
      · unfold cutD; simp only [List.length_take, List.length_drop]; omega
      · unfold cutD at hx
        exact xf x (List.mem_of_mem_drop (List.mem_of_mem_take hx))
  refine first _ fun L hl hL => ?_
  have v0 : Vs L 12 := ⟨hL, by omega⟩
  refine ⟨by omega, ?_⟩
  have second : AE okV 3 (aCons (dTup (aCons (dC (.str "other")) (aCons (dC (.int 0)) (aCons (dC (.int 0)) (aCons (dC (.int 0)) (aNil)))))) (aCons (dTup (aCons (dC .none) (aCons (dC (.int 0)) (aCons (dC (.int 1)) (aCons (dC (.int 0)) (aNil)))))) (aCons (dOfL (lLst (aCons (dBin dIx (dVar 2) (dC (.int 0))) (aCons (dC (.int 0)) (aCons (dC (.int 0)) (aCons (dC (.int 1)) (aNil))))))) (aNil))))
      [some (SV.ow (MO.par l (MO.lst ms))), some (SV.im (PyData.int n)), some (SV.im (PyData.list (PyData.str w0 :: wr.map PyData.str))), some (SV.im (PyData.tuple xs)), some (SV.im (.list L)), none, none, none, none, none, none, none] := by
    refine ae_cons (ee_tup (ae_cons (ee_c (fl_str (by decide +kernel))) (ae_cons (ee_c (fl_int 0)) (ae_cons (ee_c (fl_int 0)) (ae_cons (ee_c (fl_int 0)) ae_nil))))) (ae_cons (ee_tup (ae_cons (ee_c ⟨rfl, by decide⟩) (ae_cons (ee_c (fl_int 0)) (ae_cons (ee_c (fl_int 1)) (ae_cons (ee_c (fl_int 0)) ae_nil))))) (ae_cons (fun Q hq => ?_) ae_nil))
    exact ⟨.str w0, atI_zero, by show 4 ≤ 16777216; decide, hq _ (okV_no (by simp))⟩
  refine cat_disp (i := 4) (k := 3) (L := L) rfl second (by omega) fun M hm2 hM => ?_
  have v1 : Vs (L ++ M) 15 := v0.app (k := 3) hM (by omega)
  generalize L ++ M = L1 at v1
  refine ⟨PyData.str w0 :: wr.map PyData.str, rfl, ?_⟩
  refine wpFor_n (fun k ρ => ∃ L ms a b c d e f g, ρ = [some (SV.ow (MO.par l (MO.lst ms))), some (SV.im (PyData.int n)), some (SV.im (PyData.list (PyData.str w0 :: wr.map PyData.str))), some (SV.im (PyData.tuple xs)), some (SV.ow (.lst L)), a, b, c, d, e, f, g] ∧ Dc ms ∧ Vs L (15 + 40 * k)) ⟨_, _, _, _, _, _, _, _, _, rfl, hm, v1⟩ (fun d hd k ρ K hk hI kk => ?_) (fun ρ hI => ?_)
  · obtain ⟨L, ms, a, b, c, d', e, f, g, rfl, hm, vL⟩ := hI
    obtain ⟨w, wF, rfl⟩ : ∃ w, Fl (.str w) ∧ d = .str w := by
      rcases List.mem_cons.mp hd with rfl | hd
      · exact ⟨_, wsF _ (by simp), rfl⟩
      · obtain ⟨s, hs, rfl⟩ := List.mem_map.mp hd
        exact ⟨s, wsF _ (by simp [hs]), rfl⟩
    have k3 : k < 3 := by simp at hk; omega
    simp only [gNm, List.set_cons_zero, List.set_cons_succ, sSeq, sEx]
    refine app_one (i := 4) (L := L) rfl ?e ?l fun v hv => ?_
    case e => exact ee_tup (ae_cons (ee_v rfl wF) ae_nil)
    case l => have := vL.2; omega
    have v2 := vL.one hv
    generalize L ++ [v] = L2 at v2
    clear vL
    refine ⟨⟨by decide, by decide, by decide, by decide⟩, ?_⟩
    refine wpFor_n (fun j ρ => ∃ L ms a b c d e f, ρ = [some (SV.ow (MO.par l (MO.lst ms))), some (SV.im (PyData.int n)), some (SV.im (PyData.list (PyData.str w0 :: wr.map PyData.str))), some (SV.im (PyData.tuple xs)), some (SV.ow (.lst L)), some (SV.im (.str w)), a, b, c, d, e, f] ∧ Dc ms ∧ Vs L (16 + 40 * k + j)) ⟨_, _, _, _, _, _, _, _, rfl, hm, by simpa using (show Vs L2 (16 + 40 * k) by rw [show 16 + 40 * k = 15 + 40 * k + 1 by omega]; exact v2)⟩ (fun d hd j ρ K hj hI kk2 => ?_) (fun ρ hI => ?_)
    · obtain ⟨L, ms, a, b, c, d', e, f, rfl, hm, vL⟩ := hI
      have j6 : j < 6 := by have e6 : (rgD 0 6).length = 6 := by decide
                            rw [e6] at hj; exact hj
      refine ⟨⟨by decide, by decide, by decide, by decide⟩, ?_⟩
      refine wpLc_all (fun d => ∃ i : Int, d = .int i) (fun ρ => ∃ ms a, ρ = [some (SV.ow (MO.par l (MO.lst ms))), some (SV.im (PyData.int n)), some (SV.im (PyData.list (PyData.str w0 :: wr.map PyData.str))), some (SV.im (PyData.tuple xs)), some (SV.ow (.lst L)), some (SV.im (.str w)), some (SV.im d), a, c, d', e, none] ∧ Dc ms) ⟨_, _, rfl, hm⟩ (by decide) (fun d hd ρ K hI k => ?_) (fun _ => rfl) (fun acc ρ al ag hI => ?_)
      · obtain ⟨ms, a, rfl, hm⟩ := hI
        walk_at "dd"
        simp only [dAdd]
        exact ⟨_, rfl, by omega, by simp only [T60]; omega, hm, fun r ms1 r0 r1 hm1 => k _ _ ⟨r, rfl⟩ ⟨_, _, rfl, hm1⟩⟩
      · obtain ⟨ms, a, rfl, hm⟩ := hI
        obtain ⟨A, rfl, _⟩ := all_map (f := PyData.int) (R := fun _ => True) (acc := acc) fun y hy => by obtain ⟨i, rfl⟩ := ag y hy; exact ⟨i, rfl, trivial⟩
        have e3 : (rgD 0 3).length = 3 := by decide
        rw [e3, List.length_map] at al
        match A, al with
        | [x, y, z], _ =>
          simp only [List.set_cons_zero, List.set_cons_succ, List.map_cons, List.map_nil, sEx]
          refine app_one (i := 4) (L := L) rfl ?e2 ?l2 fun v hv => ?_
          case e2 => exact ee_tup (ae_cons (ee_v rfl wF) (ae_cons (fun Q hq => ⟨.int x, atI_zero, hq _ (fl_int x)⟩) (ae_cons (fun Q hq => ⟨.int y, atI_one, hq _ (fl_int y)⟩) (ae_cons (fun Q hq => ⟨.int z, atI_two, hq _ (fl_int z)⟩) ae_nil))))
          case l2 => have := vL.2; omega
          exact kk2 _ ⟨_, _, _, _, _, _, _, _, rfl, hm, vL.one hv⟩
    · obtain ⟨L, ms, a, b, c, d', e, f, rfl, hm, vL⟩ := hI
      have e6 : (rgD 0 6).length = 6 := by decide
      rw [e6] at vL
      rw [show 16 + 40 * k + 6 = 22 + 40 * k by omega] at vL
      have ended : ∀ (E : DEnds) (L : List D) (ms : List D) (a b c d' e f : Option SV), (∀ ρ, K ρ → E.nx ρ) → Dc ms → Vs L (28 + 40 * k) → sFor (iR1 (dVar 1)) (gNm 8) (sSeq (sPar 9 10 (xIm (dCallM 0 2 S__law_roll (aCons (dVar 1) (aNil)))) (xIm (dCallM 0 2 S__law_roll (aCons (dVar 1) (aNil))))) (sEx (dExt 4 (dOfL (lLst (aCons (dTup (aCons (dVar 5) (aCons (dVar 9) (aCons (dVar 8) (aCons (dVar 10) (aNil)))))) (aCons (dTup (aCons (dVar 5) (aCons (dVar 9) (aCons (dVar 10) (aCons (dVar 8) (aNil)))))) (aCons (dTup (aCons (dVar 5) (aCons (dVar 8) (aCons (dVar 9) (aCons (dVar 10) (aNil)))))) (aNil))))))))) E
          [some (SV.ow (MO.par l (MO.lst ms))), some (SV.im (PyData.int n)), some (SV.im (PyData.list (PyData.str w0 :: wr.map PyData.str))), some (SV.im (PyData.tuple xs)), some (SV.ow (.lst L)), some (SV.im (.str w)), a, b, c, d', e, f] := by
        intro E L ms a b c d' e f hE hm vL
        refine ⟨⟨by omega, by omega, by omega, by omega⟩, ?_⟩
        refine wpFor_n (fun j ρ => ∃ L ms a b c d e f, ρ = [some (SV.ow (MO.par l (MO.lst ms))), some (SV.im (PyData.int n)), some (SV.im (PyData.list (PyData.str w0 :: wr.map PyData.str))), some (SV.im (PyData.tuple xs)), some (SV.ow (.lst L)), some (SV.im (.str w)), a, b, c, d, e, f] ∧ Dc ms ∧ Vs L (28 + 40 * k + 3 * j)) ⟨_, _, _, _, _, _, _, _, rfl, hm, vL⟩ (fun d hd j ρ K hj hI kk3 => ?_) (fun ρ hI => ?_)
        · obtain ⟨L, ms, a, b, c, d', e, f, rfl, hm, vL⟩ := hI
          obtain ⟨y, rfl, y0, y1⟩ := mem_rgD' hd
          have jn : j < 8 := by rw [rgD_len] at hj; omega
          refine ⟨rfl, rfl, ms, rfl, n, rfl, by omega, by simp only [T60]; omega, hm, fun x ms1 x0 x1 hm1 => ?_⟩
          refine ⟨rfl, rfl, ms1, rfl, n, rfl, by omega, by simp only [T60]; omega, hm1, fun z ms2 z0 z1 hm2 => ?_⟩
          simp only [sEx]
          refine ext_disp (i := 4) (k := 3) (L := L) rfl ?e4 ?l4 fun M hM2 hM => ?_
          case e4 => exact ae_cons (ee_tup (ae_cons (ee_v rfl wF) (ae_cons (ee_v rfl (fl_int x)) (ae_cons (ee_v rfl (fl_int y)) (ae_cons (ee_v rfl (fl_int z)) ae_nil))))) (ae_cons (ee_tup (ae_cons (ee_v rfl wF) (ae_cons (ee_v rfl (fl_int x)) (ae_cons (ee_v rfl (fl_int z)) (ae_cons (ee_v rfl (fl_int y)) ae_nil))))) (ae_cons (ee_tup (ae_cons (ee_v rfl wF) (ae_cons (ee_v rfl (fl_int y)) (ae_cons (ee_v rfl (fl_int x)) (ae_cons (ee_v rfl (fl_int z)) ae_nil))))) ae_nil))
          case l4 => have := vL.2; omega
          exact kk3 _ ⟨_, _, _, _, _, _, _, _, rfl, hm2, (vL.app (k := 3) hM (by omega)).1, by have := (vL.app (k := 3) hM (by omega)).2; omega⟩
        · obtain ⟨L, ms, a, b, c, d', e, f, rfl, hm, vL⟩ := hI
          refine hE _ (kk _ ⟨_, _, _, _, _, _, _, _, _, rfl, hm, ?_⟩)
          rw [rgD_len] at vL
          exact ⟨vL.1, by have := vL.2; omega⟩
      simp only [sSeq, sEx]
      refine sIf_any rfl ?_ ?_
      · simp only [sSeq, sEx]
        refine ext_disp (i := 4) (k := 5) (L := L) rfl ?e5 ?l5 fun M hM2 hM => ?_
        case e5 => exact ae_cons (ee_tup (ae_cons (ee_v rfl wF) (ae_cons (ee_c (fl_int 0)) (ae_cons (ee_c (fl_int 0)) (ae_cons (ee_c ⟨rfl, by decide⟩) ae_nil))))) (ae_cons (ee_tup (ae_cons (ee_v rfl wF) (ae_cons (ee_c ⟨rfl, by decide⟩) (ae_cons (ee_c (fl_int 0)) (ae_cons (ee_c (fl_int 1)) ae_nil))))) (ae_cons (ee_tup (ae_cons (ee_v rfl wF) (ae_cons (ee_c (fl_int 0)) (ae_cons (ee_neg (fl_int _)) (ae_cons (ee_c (fl_int 1)) ae_nil)))))
          (ae_cons (ee_tup (ae_cons (ee_v rfl wF) (ae_cons (ee_c (fl_int 0)) (ae_cons (ee_c (fl_str (by decide +kernel))) (ae_cons (ee_c (fl_int 1)) ae_nil))))) (ae_cons (ee_tup (ae_cons (ee_v rfl wF) (ae_cons (fun Q hq => ⟨by decide, hq _ ⟨by decide +kernel, by decide +kernel⟩⟩) (ae_cons (ee_c (fl_int 0)) (ae_cons (ee_c (fl_int 1)) ae_nil))))) ae_nil))))
        case l5 => have := vL.2; omega
        have v5 := vL.app (k := 5) hM (by omega)
        have e60 : CPow 10 60 := by unfold CPow; decide +kernel
        refine app_one (i := 4) (L := L ++ M) rfl ?e6 ?l6 fun v hv => ?_
        case e6 => exact ee_tup (ae_cons (ee_v rfl wF) (ae_cons (ee_c (fl_int 0)) (ae_cons (fun Q hq => ⟨e60, hq _ (fl_int _)⟩) (ae_cons (ee_c (fl_int 1)) ae_nil))))
        case l6 => have := v5.2; omega
        have v6 := v5.one hv
        exact ended _ _ _ _ _ _ _ _ _ (fun ρ h => h) hm (by rw [show 28 + 40 * k = 22 + 40 * k + 5 + 1 by omega]; exact v6)
      · exact ended _ _ _ _ _ _ _ _ _ (fun ρ h => h) hm ⟨vL.1, by have := vL.2; omega⟩
  · obtain ⟨L, ms, a, b, c, d', e, f, g, rfl, hm, vL⟩ := hI
    refine ⟨ms, rfl, h L ms vL.1 ?_ hm⟩
    have := vL.2
    simp at this
    omega
end Dn
set_option Elab.async false
set_option linter.all false
set_option maxRecDepth 100000
set_option autoImplicit false
set_option maxHeartbeats 4000000
namespace Dn
open PySem L2 Evl PySem.Spec PyProof.Rows
local macro_rules | `(tactic| walk_at "dd") => `(tactic| simp only [sSeq, sIf, sSet, sRet, sRetN, sNx, sEx, sAsg, sPar, dTOr, dTAnd, dTNot, dTst, dIsi, dVar, dC, dBin, dChain, dNeg, dI2, dAnd, dOr, dNot, dIfE, dCall, dCallF, aCons, aNil, dTup, lLst, dOfL, xIm, xOw, gNm, gTp, gsCons, gsNil, dYes, envD, dLen_tR, dLen_tI, dLen_tup, dLen_lst, seq_tR, seq_tI, seq_tup, seq_lst, dIs, dIsNot, dNe, dEq, dTupOf, dSl, oNone, oSome, iSq, iEn, iR1, iR2, sFor, lLc, sNever, dTRg, rg1, rg2, lRg, wipeD, isN, optD,
  gTpL, dIxP, sSub, dApp, dPopAt, dExt, dCallM, dCallO, dBinO, dTupO, lOf, lOfO, sRetO, iOw, dVarF, lCat, lCall, dAbs, dMax2, dMin2, dInt, atO, setO, MO.getL, MO.putL, Option.isSome_some,
  dInK, dGetK, dGetD, dInD, dGet1, lKeys, lSort, dLenSet, dRevT, sPutK, xDct, xDct1, sRetK, atK, keyD, sAugI,
  kit_int, kit_bool, kit_tuple, kit_str, List.map_cons, List.map_nil, List.cons_append, List.nil_append, List.replicate, List.set_cons_zero, List.set_cons_succ, List.getElem?_cons_zero, List.getElem?_cons_succ, List.length_cons, List.length_nil, List.length_map, Nat.reduceAdd, Nat.reduceSub, Bool.not_true, Bool.not_false, Bool.false_eq_true, if_true, if_false, true_and, reduceCtorEq, Bool.true_eq_false, rgD_rgI, Option.some.injEq, exists_eq_left', and_true])
/-! ### the bent tables -/
def AllX : Env → Prop
  | [] => True
  | none :: l => AllX l
  | some (.im d) :: l => PL d ∧ AllX l
  | some (.ow _) :: _ => False
theorem allx_at : ∀ {l : Env}, AllX l → ∀ (i : Nat) (sv : SV), l[i]? = some (some sv) → ∃ d, sv = .im d ∧ PL d
  | [], _, i, sv, e => by simp at e
  | none :: l, h, 0, sv, e => by simp at e
  | none :: l, h, i + 1, sv, e => allx_at (l := l) h i sv (by simpa using e)
  | some (.im d) :: l, h, 0, sv, e => by simp at e; subst e; exact ⟨d, rfl, h.1⟩
  | some (.im d) :: l, h, i + 1, sv, e => allx_at (l := l) h.2 i sv (by simpa using e)
  | some (.ow _) :: _, h, _, _, _ => False.elim h
theorem fr_mk {p : Addr} {ms : List D} {l : Env} (hm : Dc ms) (h : AllX l) : Fr p (some (.ow (.par p (.lst ms))) :: l) := by
  obtain ⟨a, b, c, rfl⟩ := hm
  refine ⟨⟨a, b, c, rfl⟩, fun i sv e z => ?_⟩
  cases i with
  | zero => exact absurd rfl z
  | succ i => exact allx_at h i sv (by simpa using e)
theorem fr_p {p q : Addr} {ms : List D} {l : Env} (h : Fr q (some (.ow (.par p (.lst ms))) :: l)) : q = p ∧ Dc ms := by
  obtain ⟨a, b, c, e⟩ := h.dice
  simp at e
  obtain ⟨rfl, rfl⟩ := e
  exact ⟨rfl, a, b, c, rfl⟩
/-- all that the slots may be after a store -/
def chQ (R : D → D → Prop) : Env → (Env → Prop) → Prop
  | [], Q => Q []
  | none :: l, Q => chQ R l fun l3 => Q (none :: l3)
  | some (.im d) :: l, Q => ∀ d', R d d' → chQ R l fun l3 => Q (some (.im d') :: l3)
  | some (.ow _) :: _, _ => False
theorem chQ_ok {R : D → D → Prop} : ∀ {l : Env} {Q : Env → Prop} {l3 : Env}, chQ R l Q → l3.length = l.length → (∀ (i : Nat) (d : D), l[i]? = some (some (.im d)) → ∃ d', l3[i]? = some (some (.im d')) ∧ R d d') → (∀ (i : Nat), l[i]? = some none → l3[i]? = some none) → Q l3
  | [], Q, l3, h, hl, _, _ => by
    have : l3 = [] := List.length_eq_zero_iff.mp hl
    subst this
    exact h
  | none :: l, Q, l3, h, hl, hi, hn => by
    cases l3 with
    | nil => simp at hl
    | cons y l3 =>
      have := hn 0 rfl
      simp at this
      subst this
      exact chQ_ok (l := l) (Q := fun l3 => Q (none :: l3)) h (by simpa using hl) (fun i d e => by simpa using hi (i + 1) d (by simpa using e)) fun i e => by simpa using hn (i + 1) (by simpa using e)
  | some (.im d) :: l, Q, l3, h, hl, hi, hn => by
    cases l3 with
    | nil => simp at hl
    | cons y l3 =>
      obtain ⟨d', e1, e2⟩ := hi 0 d rfl
      simp at e1
      subst e1
      exact chQ_ok (l := l) (Q := fun l3 => Q (some (.im d') :: l3)) (h d' e2) (by simpa using hl) (fun i d e => by simpa using hi (i + 1) d (by simpa using e)) fun i e => by simpa using hn (i + 1) (by simpa using e)
  | some (.ow _) :: _, _, _, h, _, _, _ => False.elim h
theorem chE_of {R : D → D → Prop} {x : Option SV} {l : Env} {Q : Env → Prop} (h : chQ R l fun l3 => Q (x :: l3)) : ∀ ρ3, ChE R (x :: l) ρ3 → Q ρ3 := fun ρ3 c => by
  cases ρ3 with
  | nil => have := c.len; simp at this
  | cons y l3 =>
    have e0 := c.at0
    simp at e0
    subst e0
    exact chQ_ok (Q := fun l3 => Q (y :: l3)) h (by simpa using c.len) (fun i d e => by simpa using c.im (i + 1) d (by simpa using e)) fun i e => by simpa using c.no (i + 1) (by simpa using e)
theorem ch_nl {es : List D} {d d' : D} (n : NL d) (c : Ch es d d') : d' = d := by
  cases c with
  | nl _ => rfl
  | repl _ _ => cases n
  | lst _ _ => cases n
theorem ch2_nl {es : List D} {d d' : D} (n : NL d) (c : Ch2 es d d') : d' = d := by
  cases c with
  | nl _ => rfl
  | l1 _ => rfl
  | repl _ _ => cases n
  | lst _ _ _ => cases n
/-- lists of things without lists -/
def Ls (P : D → Prop) (n : Nat) (r : List D) : Prop := r.length = n ∧ ∀ d, d ∈ r → NL d ∧ P d
def LLs (P : D → Prop) (n : Nat) (F : List (List D)) : Prop := F.length = n ∧ ∀ r, r ∈ F → Ls P n r
def tLL (F : List (List D)) : D := .list (F.map .list)
theorem ch_ls {P : D → Prop} {n : Nat} {es r : List D} {d' : D} (he : Ls P n es) (hr : Ls P n r) (c : Ch es (.list r) d') : ∃ r', d' = .list r' ∧ Ls P n r' := by
  cases c with
  | nl n => cases n
  | repl _ _ => exact ⟨es, rfl, he⟩
  | @lst _ ds' l h =>
    refine ⟨r, ?_, hr⟩
    congr 1
    refine List.ext_getElem? fun i => ?_
    by_cases il : i < r.length
    · have e1 := List.getElem?_eq_getElem il
      have e2 := List.getElem?_eq_getElem (show i < ds'.length by omega)
      have := ch_nl (hr.2 _ (List.getElem_mem il)).1 (h i _ _ e1 e2)
      rw [e1, e2, this]
    · rw [List.getElem?_eq_none (by omega), List.getElem?_eq_none (by omega)]
theorem ch_ll {P : D → Prop} {n : Nat} {es : List D} {F : List (List D)} {d' : D} (n1 : 1 ≤ n) (he : Ls P n es) (hF : LLs P n F) (c : Ch es (tLL F) d') : ∃ F', d' = tLL F' ∧ LLs P n F' := by
  unfold tLL at c
  cases c with
  | nl n => cases n
  | repl h _ =>
    match F, hF with
    | [], hF => have := hF.1; simp at this; omega
    | r :: F, _ => exact False.elim (h (.list r) (by simp))
  | @lst _ ds' l h =>
    have key : ∀ y, y ∈ ds' → ∃ r, y = .list r ∧ Ls P n r := fun y hy => by
      obtain ⟨i, hi⟩ := List.mem_iff_getElem?.mp hy
      have il : i < F.length := by have := (List.getElem?_eq_some_iff.mp hi).1; simp at l; omega
      exact ch_ls he (hF.2 _ (List.getElem_mem il)) (h i (.list F[i]) y (by simp [il]) hi)
    obtain ⟨F', rfl, hF'⟩ := all_map key
    exact ⟨F', rfl, by have := hF.1; simp at l; omega, hF'⟩
theorem ls_set {P : D → Prop} {n m : Nat} {r : List D} {d : D} (hr : Ls P n r) (nd : NL d) (pd : P d) : Ls P n (r.set m d) :=
  ⟨by simpa using hr.1, fun x hx => (List.mem_or_eq_of_mem_set hx).elim (hr.2 x) fun z => by rw [z]; exact ⟨nd, pd⟩⟩
theorem ls_pl {P : D → Prop} {n : Nat} {r : List D} (hr : Ls P n r) : PL (.list r) := .lst fun d hd => .nl (hr.2 d hd).1
theorem ll_pl {P : D → Prop} {n : Nat} {F : List (List D)} (hF : LLs P n F) : PL (tLL F) := .lst fun d hd => by
  obtain ⟨r, hr, rfl⟩ := List.mem_map.mp hd
  exact ls_pl (hF.2 r hr)
end Dn
set_option Elab.async false
set_option linter.all false
set_option maxRecDepth 100000
set_option autoImplicit false
set_option maxHeartbeats 4000000
namespace Dn
open PySem L2 Evl PySem.Spec PyProof.Rows
local macro_rules | `(tactic| walk_at "dd") => `(tactic| simp only [sSeq, sIf, sSet, sRet, sRetN, sNx, sEx, sAsg, sPar, dTOr, dTAnd, dTNot, dTst, dIsi, dVar, dC, dBin, dChain, dNeg, dI2, dAnd, dOr, dNot, dIfE, dCall, dCallF, aCons, aNil, dTup, lLst, dOfL, xIm, xOw, gNm, gTp, gsCons, gsNil, dYes, envD, dLen_tR, dLen_tI, dLen_tup, dLen_lst, seq_tR, seq_tI, seq_tup, seq_lst, dIs, dIsNot, dNe, dEq, dTupOf, dSl, oNone, oSome, iSq, iEn, iR1, iR2, sFor, lLc, sNever, dTRg, rg1, rg2, lRg, wipeD, isN, optD,
  gTpL, dIxP, sSub, dApp, dPopAt, dExt, dCallM, dCallO, dBinO, dTupO, lOf, lOfO, sRetO, iOw, dVarF, lCat, lCall, dAbs, dMax2, dMin2, dInt, atO, setO, MO.getL, MO.putL, Option.isSome_some,
  dInK, dGetK, dGetD, dInD, dGet1, lKeys, lSort, dLenSet, dRevT, sPutK, xDct, xDct1, sRetK, atK, keyD, sAugI,
  kit_int, kit_bool, kit_tuple, kit_str, List.map_cons, List.map_nil, List.cons_append, List.nil_append, List.replicate, List.set_cons_zero, List.set_cons_succ, List.getElem?_cons_zero, List.getElem?_cons_succ, List.length_cons, List.length_nil, List.length_map, Nat.reduceAdd, Nat.reduceSub, Bool.not_true, Bool.not_false, Bool.false_eq_true, if_true, if_false, true_and, reduceCtorEq, Bool.true_eq_false, rgD_rgI, Option.some.injEq, exists_eq_left', and_true])
def PP (n : Nat) (d : D) : Prop := ∃ q, d = tP q ∧ Pr n q
theorem nl_tP (q : Int × Int) : NL (tP q) := .tup fun d hd => by
  simp only [List.mem_cons, List.not_mem_nil, or_false] at hd
  rcases hd with rfl | rfl <;> exact .int _
theorem nl_tPs (r : List (Int × Int)) : NL (tPs r) := .tup fun d hd => by
  obtain ⟨q, _, rfl⟩ := List.mem_map.mp hd
  exact nl_tP q
theorem nl_tRP (R : List (List (Int × Int))) : NL (tRP R) := .tup fun d hd => by
  obtain ⟨q, _, rfl⟩ := List.mem_map.mp hd
  exact nl_tPs q
theorem ll_rows {n : Nat} {R : List (List (Int × Int))} (h : Pw n R) : LLs (PP n) n (R.map fun r => r.map tP) := ⟨by simp [h.1], fun r hr => by
  obtain ⟨s, hs, rfl⟩ := List.mem_map.mp hr
  have := h.2 s hs
  refine ⟨by simp [this.1], fun d hd => ?_⟩
  obtain ⟨q, hq, rfl⟩ := List.mem_map.mp hd
  exact ⟨nl_tP q, q, rfl, this.2 q hq⟩⟩
theorem rows_ll {n : Nat} {F : List (List D)} (h : LLs (PP n) n F) : ∃ R, Pw n R ∧ F = R.map fun r => r.map tP := by
  have row : ∀ r, r ∈ F → ∃ s : List (Int × Int), r = s.map tP ∧ (s.length = n ∧ ∀ p, p ∈ s → Pr n p) := fun r hr => by
    have hl := h.2 r hr
    obtain ⟨C, rfl, hC⟩ := all_map (f := tP) (R := Pr n) (acc := r) fun y hy => by
      obtain ⟨_, q, e, hq⟩ := hl.2 y hy
      exact ⟨q, e, hq⟩
    exact ⟨C, rfl, by simpa using hl.1, hC⟩
  have all : ∀ (F : List (List D)), (∀ r, r ∈ F → ∃ s : List (Int × Int), r = s.map tP ∧ (s.length = n ∧ ∀ p, p ∈ s → Pr n p)) → ∃ R : List (List (Int × Int)), F = R.map (fun r => r.map tP) ∧ ∀ r, r ∈ R → r.length = n ∧ ∀ p, p ∈ r → Pr n p := by
    intro F
    induction F with
    | nil => exact fun _ => ⟨[], rfl, by simp⟩
    | cons r F ih =>
      intro hh
      obtain ⟨s, rfl, hs⟩ := hh r (by simp)
      obtain ⟨R, rfl, hR⟩ := ih fun r hr => hh r (by simp [hr])
      exact ⟨s :: R, rfl, fun x hx => by rcases List.mem_cons.mp hx with rfl | hx; exact hs; exact hR x hx⟩
  obtain ⟨R, rfl, hR⟩ := all F row
  exact ⟨R, ⟨by simpa using h.1, hR⟩, rfl⟩
def OkO (n : Nat) (o : Option SV) : Prop := o = none ∨ ∃ r, o = some (.im (.list r)) ∧ Ls (PP n) n r
abbrev en (l : Addr) (ms : List D) (R : List (List (Int × Int))) (n : Nat) (w : D) (F : List (List D)) (x y z u : Int) (line : List D) (o : Option SV) : Env :=
  [some (.ow (.par l (.lst ms))), some (.im (tRP R)), some (.im (.int n)), some (.im w), some (.im (tLL F)), some (.im (.int x)), some (.im (.int y)), some (.im (.int z)), some (.im (.int u)), some (.im (.list line)), o, none, none]
theorem en_all {R : List (List (Int × Int))} {n : Nat} {w : D} {F : List (List D)} {x y z u : Int} {line : List D} {o : Option SV} (nw : NL w) (hF : LLs (PP n) n F) (hl : Ls (PP n) n line) (ho : OkO n o) :
    AllX [some (.im (tRP R)), some (.im (.int n)), some (.im w), some (.im (tLL F)), some (.im (.int x)), some (.im (.int y)), some (.im (.int z)), some (.im (.int u)), some (.im (.list line)), o, none, none] := by
  rcases ho with rfl | ⟨r, rfl, hr⟩
  · exact ⟨.nl (nl_tRP R), .nl (.int _), .nl nw, ll_pl hF, .nl (.int _), .nl (.int _), .nl (.int _), .nl (.int _), ls_pl hl, trivial⟩
  · exact ⟨.nl (nl_tRP R), .nl (.int _), .nl nw, ll_pl hF, .nl (.int _), .nl (.int _), .nl (.int _), .nl (.int _), ls_pl hl, ls_pl hr, trivial⟩
theorem en_store {l : Addr} {ms : List D} {R : List (List (Int × Int))} {n : Nat} {w : D} {F : List (List D)} {x y z u : Int} {line : List D} {o : Option SV} (n1 : 1 ≤ n) (nw : NL w) (hF : LLs (PP n) n F) (hl : Ls (PP n) n line) (ho : OkO n o) {es : List D} (he : Ls (PP n) n es) {QD : Env → Prop}
    (k : ∀ F line o', LLs (PP n) n F → Ls (PP n) n line → OkO n o' → (o' = none ↔ o = none) → QD (en l ms R n w F x y z u line o')) : ∀ ρ3, ChE (Ch es) (en l ms R n w F x y z u line o) ρ3 → QD ρ3 := by
  apply chE_of
  intro d1 c1; obtain rfl := ch_nl (nl_tRP R) c1
  intro d2 c2; obtain rfl := ch_nl (.int _) c2
  intro d3 c3; obtain rfl := ch_nl nw c3
  intro d4 c4; obtain ⟨F', rfl, hF'⟩ := ch_ll n1 he hF c4
  intro d5 c5; obtain rfl := ch_nl (.int _) c5
  intro d6 c6; obtain rfl := ch_nl (.int _) c6
  intro d7 c7; obtain rfl := ch_nl (.int _) c7
  intro d8 c8; obtain rfl := ch_nl (.int _) c8
  intro d9 c9; obtain ⟨line', rfl, hl'⟩ := ch_ls he hl c9
  rcases ho with rfl | ⟨r, rfl, hr⟩
  · exact k F' line' none hF' hl' (.inl rfl) Iff.rfl
  · intro d10 c10; obtain ⟨r', rfl, hr'⟩ := ch_ls he hr c10
    exact k F' line' _ hF' hl' (.inr ⟨r', rfl, hr'⟩) (by simp)
theorem st_row {l : Addr} {ms : List D} {R : List (List (Int × Int))} {n : Nat} {w : D} {F : List (List D)} {x y z u : Int} {line r : List D} {o : Option SV} {i j : Nat} {v : Int} {q : Int × Int} (hm : Dc ms) (n1 : 1 ≤ n) (nw : NL w) (hF : LLs (PP n) n F) (hl : Ls (PP n) n line) (ho : OkO n o)
    (hi : (en l ms R n w F x y z u line o)[i]? = some (some (.im (.list r)))) (hr : Ls (PP n) n r) (hj : (en l ms R n w F x y z u line o)[j]? = some (some (.im (.int v)))) (hv : 0 ≤ v ∧ v < n) (hq : Pr n q) {QD : Env → Prop}
    (k : ∀ F line o', LLs (PP n) n F → Ls (PP n) n line → OkO n o' → (o' = none ↔ o = none) → QD (en l ms R n w F x y z u line o')) : gSubB i (dVar j) (tP q) (en l ms R n w F x y z u line o) QD := by
  intro p hp
  obtain ⟨rfl, _⟩ := fr_p hp
  refine ⟨nl_tP q, ⟨_, hi⟩, ?_⟩
  unfold dVar
  rw [hj]
  refine ⟨fr_mk hm (en_all nw hF hl ho), r, v, v.toNat, hi, rfl, ?_, fun d hd => (hr.2 d hd).1, en_store n1 nw hF hl ho (ls_set hr (nl_tP q) ⟨q, rfl, hq⟩) k⟩
  unfold ixN
  rw [if_pos hv.1, if_pos (by rw [hr.1]; exact hv.2)]
theorem ls_ix {n : Nat} {r : List D} {v : Int} {Q : D → Prop} (hr : Ls (PP n) n r) (hv : 0 ≤ v ∧ v < n) (k : ∀ q, Pr n q → Q (tP q)) : dIx (.list r) (.int v) Q := by
  refine ⟨_, atI_in (d := .none) hv.1 (by rw [hr.1]; exact hv.2), ?_⟩
  obtain ⟨_, q, e, hq⟩ := hr.2 _ (getD_mem (l := r) (i := v.toNat) (d := .none) (by rw [hr.1]; omega))
  rw [e]
  exact k q hq
theorem ll_ix {n : Nat} {F : List (List D)} {v : Int} {Q : D → Prop} (hF : LLs (PP n) n F) (hv : 0 ≤ v ∧ v < n) (k : ∀ r, Ls (PP n) n r → Q (.list r)) : dIx (tLL F) (.int v) Q := by
  have l : v.toNat < F.length := by rw [hF.1]; omega
  refine ⟨_, atI_in (d := .none) hv.1 (by rw [List.length_map, hF.1]; exact hv.2), ?_⟩
  have : (F.map PyData.list).getD v.toNat .none = .list F[v.toNat] := by simp [List.getD, l]
  rw [this]
  exact k _ (hF.2 _ (List.getElem_mem l))
end Dn
set_option Elab.async false
set_option linter.all false
set_option maxRecDepth 100000
set_option autoImplicit false
set_option maxHeartbeats 4000000
namespace Dn
open PySem L2 Evl PySem.Spec PyProof.Rows
local macro_rules | `(tactic| walk_at "dd") => `(tactic| simp only [sSeq, sIf, sSet, sRet, sRetN, sNx, sEx, sAsg, sPar, dTOr, dTAnd, dTNot, dTst, dIsi, dVar, dC, dBin, dChain, dNeg, dI2, dAnd, dOr, dNot, dIfE, dCall, dCallF, aCons, aNil, dTup, lLst, dOfL, xIm, xOw, gNm, gTp, gsCons, gsNil, dYes, envD, dLen_tR, dLen_tI, dLen_tup, dLen_lst, seq_tR, seq_tI, seq_tup, seq_lst, dIs, dIsNot, dNe, dEq, dTupOf, dSl, oNone, oSome, iSq, iEn, iR1, iR2, sFor, lLc, sNever, dTRg, rg1, rg2, lRg, wipeD, isN, optD,
  gTpL, dIxP, sSub, dApp, dPopAt, dExt, dCallM, dCallO, dBinO, dTupO, lOf, lOfO, sRetO, iOw, dVarF, lCat, lCall, dAbs, dMax2, dMin2, dInt, atO, setO, MO.getL, MO.putL, Option.isSome_some,
  dInK, dGetK, dGetD, dInD, dGet1, lKeys, lSort, dLenSet, dRevT, sPutK, xDct, xDct1, sRetK, atK, keyD, sAugI,
  kit_int, kit_bool, kit_tuple, kit_str, List.map_cons, List.map_nil, List.cons_append, List.nil_append, List.replicate, List.set_cons_zero, List.set_cons_succ, List.getElem?_cons_zero, List.getElem?_cons_succ, List.length_cons, List.length_nil, List.length_map, Nat.reduceAdd, Nat.reduceSub, Bool.not_true, Bool.not_false, Bool.false_eq_true, if_true, if_false, true_and, reduceCtorEq, Bool.true_eq_false, rgD_rgI, Option.some.injEq, exists_eq_left', and_true])
def AllN : Env → Prop
  | [] => True
  | none :: l => AllN l
  | some (.im d) :: l => NL d ∧ AllN l
  | some (.ow _) :: l => AllN l
theorem alln_at : ∀ {l : Env}, AllN l → ∀ (i : Nat) (d : D), l[i]? = some (some (.im d)) → NL d
  | [], _, i, d, e => by simp at e
  | none :: l, h, 0, d, e => by simp at e
  | none :: l, h, i + 1, d, e => alln_at (l := l) h i d (by simpa using e)
  | some (.im d') :: l, h, 0, d, e => by simp at e; subst e; exact h.1
  | some (.im d') :: l, h, i + 1, d, e => alln_at (l := l) h.2 i d (by simpa using e)
  | some (.ow _) :: l, h, 0, d, e => by simp at e
  | some (.ow _) :: l, h, i + 1, d, e => alln_at (l := l) h i d (by simpa using e)
theorem roll_ok {ms : List D} {n : Nat} {k : Int} (hm : Dc ms) (h0 : 0 < k) (h1 : k ≤ 1000) {Q : D → List D → Prop} (h : ∀ r ms', 0 ≤ r → r < k → Dc ms' → Q (.int r) ms') : S__law_roll ms [.int k] Q := ⟨k, rfl, h0, by simp only [T60]; omega, hm, h⟩
theorem v__law_bent_rows : VM g__law_bent_rows S__law_bent_rows 2 11 := fun l ms ds Q _ h => by
  obtain ⟨R, n, rfl, hR, hn, hm, h⟩ := h
  have rl := hR.1
  unfold g__law_bent_rows
  refine ⟨⟨l, fr_mk hm ⟨.nl (nl_tRP R), trivial⟩⟩, alln_at ⟨nl_tRP R, trivial⟩, ?_⟩
  simp only [sSeq]
  intro p hp
  obtain ⟨rfl, _⟩ := fr_p hp
  walk_at "dd"
  rw [dLen_tRP, rl]
  refine roll_ok (n := n) hm (by decide) (by decide) fun w ms1 w0 w1 hm1 => ?_
  refine ⟨_, rfl, ?_⟩
  refine wpLc_mapL R tPs (fun r => .list (r.map tP)) (by omega) rfl (fun r hr K hK => ?_) (fun _ => rfl) ?_
  · walk_at "dd"
    exact hK _ rfl
  rw [show R.map (fun r => PyData.list (r.map tP)) = (R.map fun r => r.map tP).map PyData.list from by simp only [List.map_map, Function.comp_def]]
  have hF := ll_rows hR
  generalize (R.map fun r => r.map tP) = F at hF
  refine ⟨by decide, fr_mk hm1 ⟨.nl (nl_tRP R), .nl (.int _), .nl (.int _), ll_pl hF, trivial⟩, ?_⟩
  intro p2 hp2
  obtain ⟨rfl, _⟩ := fr_p hp2
  walk_at "dd"
  refine ⟨rfl, rfl, ?_⟩
  rw [eqv_int]
  refine ite_ways (fun e => ?_) (fun e => ?_)
  · exact ⟨fr_mk hm1 ⟨.nl (nl_tRP R), .nl (.int _), .nl (.int _), ll_pl hF, trivial⟩, ms1, rfl, h R ms1 hR hm1⟩
  have n1 : 1 ≤ n := by
    have : ¬ (n : Int) = 0 := by simpa using e
    omega
  refine ⟨rfl, rfl, ?_⟩
  refine ite_ways (fun e => ?_) (fun e => ?_)
  · exact ⟨fr_mk hm1 ⟨.nl (nl_tRP R), .nl (.int _), .nl (.int _), ll_pl hF, trivial⟩, ms1, rfl, h R ms1 hR hm1⟩
  refine ⟨fr_mk hm1 ⟨.nl (nl_tRP R), .nl (.int _), .nl (.int _), ll_pl hF, trivial⟩, ?_⟩
  intro p3 hp3
  obtain ⟨rfl, _⟩ := fr_p hp3
  walk_at "dd"
  refine ⟨⟨by decide, by decide, by decide, by decide⟩, ?_⟩
  refine wpLc_all (fun d => ∃ i : Int, d = .int i ∧ 0 ≤ i ∧ i < n) (fun ρ => ∃ ms, ρ = [some (.ow (.par p3 (.lst ms))), some (.im (tRP R)), some (.im (.int n)), some (.im (.int w)), some (.im (tLL F)), none, none, none, none, none, none, none, none] ∧ Dc ms) ⟨_, rfl, hm1⟩ (by decide) (fun d hd ρ K hI k => ?_) (fun _ => rfl) (fun acc ρ al ag hI => ?_)
  · obtain ⟨ms, rfl, hm⟩ := hI
    walk_at "dd"
    exact roll_ok (n := n) hm (by omega) (by omega) fun r ms1 r0 r1 hm1 => k _ _ ⟨r, rfl, r0, r1⟩ ⟨_, rfl, hm1⟩
  obtain ⟨ms2, rfl, hm2⟩ := hI
  obtain ⟨A, rfl, hA⟩ := all_map (f := PyData.int) (R := fun i => 0 ≤ i ∧ i < (n : Int)) (acc := acc) fun y hy => by obtain ⟨i, e, hi⟩ := ag y hy; exact ⟨i, e, hi⟩
  have e4 : (rgD 0 4).length = 4 := by decide
  rw [e4, List.length_map] at al
  obtain ⟨x, y, z, u, rfl⟩ : ∃ x y z u, A = [x, y, z, u] := by
    match A, al with
    | [x, y, z, u], _ => exact ⟨x, y, z, u, rfl⟩
  have hx := hA x (by simp)
  have hy := hA y (by simp)
  have hz := hA z (by simp)
  have hu := hA u (by simp)
  clear hA ag al
  simp only [List.map_cons, List.map_nil]
  walk_at "dd"
  refine ⟨fr_mk hm2 ⟨.nl (nl_tRP R), .nl (.int _), .nl (.int _), ll_pl hF, .nl (.int _), .nl (.int _), .nl (.int _), .nl (.int _), trivial⟩, ?_⟩
  intro p4 hp4
  obtain ⟨rfl, _⟩ := fr_p hp4
  walk_at "dd"
  refine ll_ix hF hx fun line hline => ?_
  refine ⟨fr_mk hm2 (en_all (o := none) (.int w) hF hline (.inl rfl)), ?_⟩
  have fin : ∀ (F : List (List D)) (line : List D) (o : Option SV) (ms : List D), Dc ms → LLs (PP n) n F → Ls (PP n) n line → OkO n o → (sB (sRet (dCall dTupOf (aCons (dOfL (lLc (iSq (dVar 4)) (gNm 11) (dYes) (dCall dTupOf (aCons (dVar 11) (aNil))) [11])) (aNil)))))
      { nx := fun ρ => ∃ ms', ρ[0]? = some (some (SV.ow (MO.par p4 (MO.lst ms')))) ∧ Q PyData.none ms', rt := fun d ρ => ∃ ms', ρ[0]? = some (some (SV.ow (MO.par p4 (MO.lst ms')))) ∧ Q d ms' } (en p4 ms R n (.int w) F x y z u line o) := by
    intro F line o ms hm hF hl ho
    intro p5 hp5
    obtain ⟨rfl, _⟩ := fr_p hp5
    obtain ⟨R', hR', rfl⟩ := rows_ll hF
    have rl' := hR'.1
    walk_at "dd"
    refine ⟨(R'.map fun r => r.map tP).map PyData.list, rfl, ?_⟩
    rw [show (R'.map fun r => r.map tP).map PyData.list = R'.map (fun r => PyData.list (r.map tP)) from by simp only [List.map_map, Function.comp_def]]
    refine wpLc_mapL R' (fun r => .list (r.map tP)) tPs (by omega) rfl (fun r hr K hK => ?_) (fun _ => rfl) ?_
    · walk_at "dd"
      exact hK _ rfl
    · refine ⟨fr_mk hm (en_all (.int w) (ll_rows hR') hl ho), ms, rfl, h R' ms hR' hm⟩
  intro p5 hp5
  obtain ⟨rfl, _⟩ := fr_p hp5
  walk_at "dd"
  refine ⟨rfl, rfl, fr_mk hm2 (en_all (o := none) (.int w) hF hline (.inl rfl)), ?_⟩
  rw [eqv_int]
  refine ite_ways (fun e1 => ?_) (fun e1 => ?_)
  · intro p6 hp6
    obtain ⟨rfl, _⟩ := fr_p hp6
    walk_at "dd"
    refine roll_ok (n := n) hm2 (by omega) (by omega) fun a ms3 a0 a1 hm3 => ?_
    refine roll_ok (n := n) hm3 (by omega) (by omega) fun b ms4 b0 b1 hm4 => ?_
    refine ⟨by decide, fr_mk hm4 (en_all (o := none) (.int w) hF hline (.inl rfl)), ?_⟩
    exact st_row (i := 9) (j := 6) (q := (a, b)) hm4 n1 (.int w) hF hline (.inl rfl) rfl hline rfl hy ⟨⟨a0, a1⟩, b0, b1⟩ fun F line o h1 h2 h3 _ => fin F line o ms4 hm4 h1 h2 h3
  intro p6 hp6
  obtain ⟨rfl, _⟩ := fr_p hp6
  walk_at "dd"
  refine ⟨rfl, rfl, fr_mk hm2 (en_all (o := none) (.int w) hF hline (.inl rfl)), ?_⟩
  rw [eqv_int]
  refine ite_ways (fun e2 => ?_) (fun e2 => ?_)
  · intro p7 hp7
    obtain ⟨rfl, _⟩ := fr_p hp7
    walk_at "dd"
    refine ll_ix hF hu fun other hother => ?_
    refine ⟨fr_mk hm2 (en_all (.int w) hF hline (.inr ⟨other, rfl, hother⟩)), ?_⟩
    intro p8 hp8
    obtain ⟨rfl, _⟩ := fr_p hp8
    walk_at "dd"
    refine ls_ix hother hz fun q1 hq1 => ls_ix hline hy fun q2 hq2 => ?_
    refine ⟨by decide, fr_mk hm2 (en_all (.int w) hF hline (.inr ⟨other, rfl, hother⟩)), ?_⟩
    refine ⟨[tP q1, tP q2], rfl, rfl, fun d hd => ?_, ?_⟩
    · simp only [List.mem_cons, List.not_mem_nil, or_false] at hd
      rcases hd with rfl | rfl <;> exact nl_tP _
    refine st_row (i := 9) (j := 6) hm2 n1 (.int w) hF hline (.inr ⟨other, rfl, hother⟩) rfl hline rfl hy hq1 fun F1 line1 o1 h1 h2 h3 h4 => ?_
    rcases h3 with z | ⟨r1, rfl, hr1⟩
    · have := h4.1 z; cases this
    refine st_row (i := 10) (j := 7) hm2 n1 (.int w) h1 h2 (.inr ⟨r1, rfl, hr1⟩) rfl hr1 rfl hz hq2 fun F2 line2 o2 k1 k2 k3 k4 => ?_
    exact ⟨rfl, fin F2 line2 o2 ms2 hm2 k1 k2 k3⟩
  intro p7 hp7
  obtain ⟨rfl, _⟩ := fr_p hp7
  walk_at "dd"
  refine ⟨rfl, rfl, fr_mk hm2 (en_all (o := none) (.int w) hF hline (.inl rfl)), ?_⟩
  rw [eqv_int]
  refine ite_ways (fun e3 => ?_) (fun e3 => ?_)
  · intro p8 hp8
    obtain ⟨rfl, _⟩ := fr_p hp8
    walk_at "dd"
    refine ls_ix hline hz fun q1 hq1 => ixP0 (ls_ix hline hy fun q2 hq2 => ixP1 ?_)
    refine ⟨by decide, ?_⟩
    refine ls_ix hline hy fun q3 hq3 => ixP0 (ls_ix hline hz fun q4 hq4 => ixP1 ?_)
    refine ⟨by decide, by decide, fr_mk hm2 (en_all (o := none) (.int w) hF hline (.inl rfl)), ?_⟩
    refine ⟨[tP (q1.1, q2.2), tP (q3.1, q4.2)], rfl, rfl, fun d hd => ?_, ?_⟩
    · simp only [List.mem_cons, List.not_mem_nil, or_false] at hd
      rcases hd with rfl | rfl <;> exact nl_tP _
    refine st_row (i := 9) (j := 6) (q := (q1.1, q2.2)) hm2 n1 (.int w) hF hline (.inl rfl) rfl hline rfl hy ⟨hq1.1, hq2.2⟩ fun F1 line1 o1 h1 h2 h3 h4 => ?_
    refine st_row (i := 9) (j := 7) (q := (q3.1, q4.2)) hm2 n1 (.int w) h1 h2 h3 rfl h2 rfl hz ⟨hq3.1, hq4.2⟩ fun F2 line2 o2 k1 k2 k3 k4 => ?_
    exact ⟨rfl, fin F2 line2 o2 ms2 hm2 k1 k2 k3⟩
  intro p8 hp8
  obtain ⟨rfl, _⟩ := fr_p hp8
  walk_at "dd"
  refine ll_ix hF hz fun other hother => ?_
  refine ⟨fr_mk hm2 (en_all (.int w) hF hline (.inr ⟨other, rfl, hother⟩)), ?_⟩
  intro p9 hp9
  obtain ⟨rfl, _⟩ := fr_p hp9
  walk_at "dd"
  refine ls_ix hline hy fun q1 hq1 => ixP0 (ls_ix hother hy fun q2 hq2 => ixP1 ?_)
  refine ⟨by decide, ?_⟩
  refine ls_ix hother hy fun q3 hq3 => ixP0 (ls_ix hline hy fun q4 hq4 => ixP1 ?_)
  refine ⟨by decide, by decide, fr_mk hm2 (en_all (.int w) hF hline (.inr ⟨other, rfl, hother⟩)), ?_⟩
  refine ⟨[tP (q1.1, q2.2), tP (q3.1, q4.2)], rfl, rfl, fun d hd => ?_, ?_⟩
  · simp only [List.mem_cons, List.not_mem_nil, or_false] at hd
    rcases hd with rfl | rfl <;> exact nl_tP _
  refine st_row (i := 9) (j := 6) (q := (q1.1, q2.2)) hm2 n1 (.int w) hF hline (.inr ⟨other, rfl, hother⟩) rfl hline rfl hy ⟨hq1.1, hq2.2⟩ fun F1 line1 o1 h1 h2 h3 h4 => ?_
  rcases h3 with z | ⟨r1, rfl, hr1⟩
  · have := h4.1 z; cases this
  refine st_row (i := 10) (j := 6) (q := (q3.1, q4.2)) hm2 n1 (.int w) h1 h2 (.inr ⟨r1, rfl, hr1⟩) rfl hr1 rfl hy ⟨hq3.1, hq4.2⟩ fun F2 line2 o2 k1 k2 k3 k4 => ?_
  exact ⟨rfl, fin F2 line2 o2 ms2 hm2 k1 k2 k3⟩
end Dn
set_option Elab.async false
set_option linter.all false
set_option maxRecDepth 100000
set_option autoImplicit false
set_option maxHeartbeats 4000000
namespace Dn.K69
open PySem L2 Evl PySem.Spec PyProof.Rows
local macro_rules | `(tactic| walk_at "dd") => `(tactic| simp only [sSeq, sIf, sSet, sRet, sRetN, sNx, sEx, sAsg, sPar, dTOr, dTAnd, dTNot, dTst, dIsi, dVar, dC, dBin, dChain, dNeg, dI2, dAnd, dOr, dNot, dIfE, dCall, dCallF, aCons, aNil, dTup, lLst, dOfL, xIm, xOw, gNm, gTp, gsCons, gsNil, dYes, envD, dLen_tR, dLen_tI, dLen_tup, dLen_lst, seq_tR, seq_tI, seq_tup, seq_lst, dIs, dIsNot, dNe, dEq, dTupOf, dSl, oNone, oSome, iSq, iEn, iR1, iR2, sFor, lLc, sNever, dTRg, rg1, rg2, lRg, wipeD, isN, optD,
  gTpL, dIxP, sSub, dApp, dPopAt, dExt, dCallM, dCallO, dBinO, dTupO, lOf, lOfO, sRetO, iOw, dVarF, lCat, lCall, dAbs, dMax2, dMin2, dInt, atO, setO, MO.getL, MO.putL, Option.isSome_some,
  dInK, dGetK, dGetD, dInD, dGet1, lKeys, lSort, dLenSet, dLenSetL, dLenSet2, sPar3, dRevT, sPutK, xDct, xDct1, sRetK, atK, keyD, sAugI,
  kit_int, kit_bool, kit_tuple, kit_str, List.map_cons, List.map_nil, List.cons_append, List.nil_append, List.replicate, List.set_cons_zero, List.set_cons_succ, List.getElem?_cons_zero, List.getElem?_cons_succ, List.length_cons, List.length_nil, List.length_map, Nat.reduceAdd, Nat.reduceSub, Bool.not_true, Bool.not_false, Bool.false_eq_true, if_true, if_false, true_and, reduceCtorEq, Bool.true_eq_false, rgD_rgI, Option.some.injEq, exists_eq_left', and_true])
def PI (n : Nat) (d : D) : Prop := ∃ i : Int, d = .int i ∧ 0 ≤ i ∧ i < n
theorem ill_rows {n : Nat} {C : List (List Int)} (h : Dw n C) : LLs (PI n) n (C.map fun r => r.map PyData.int) := ⟨by simp [h.1], fun r hr => by
  obtain ⟨s, hs, rfl⟩ := List.mem_map.mp hr
  have := h.2 s hs
  refine ⟨by simp [this.1], fun d hd => ?_⟩
  obtain ⟨q, hq, rfl⟩ := List.mem_map.mp hd
  exact ⟨.int q, q, rfl, this.2 q hq⟩⟩
theorem rows_ill {n : Nat} {F : List (List D)} (h : LLs (PI n) n F) : ∃ C, Dw n C ∧ F = C.map fun r => r.map PyData.int := by
  have row : ∀ r, r ∈ F → ∃ s : List Int, r = s.map PyData.int ∧ Mv n s := fun r hr => by
    have hl := h.2 r hr
    obtain ⟨C, rfl, hC⟩ := all_map (f := PyData.int) (R := fun i => 0 ≤ i ∧ i < (n : Int)) (acc := r) fun y hy => by
      obtain ⟨_, q, e, hq⟩ := hl.2 y hy
      exact ⟨q, e, hq⟩
    exact ⟨C, rfl, by simpa using hl.1, hC⟩
  have all : ∀ (F : List (List D)), (∀ r, r ∈ F → ∃ s : List Int, r = s.map PyData.int ∧ Mv n s) → ∃ R : List (List Int), F = R.map (fun r => r.map PyData.int) ∧ ∀ r, r ∈ R → Mv n r := by
    intro F
    induction F with
    | nil => exact fun _ => ⟨[], rfl, by simp⟩
    | cons r F ih =>
      intro hh
      obtain ⟨s, rfl, hs⟩ := hh r (by simp)
      obtain ⟨R, rfl, hR⟩ := ih fun r hr => hh r (by simp [hr])
      exact ⟨s :: R, rfl, fun x hx => by rcases List.mem_cons.mp hx with rfl | hx; exact hs; exact hR x hx⟩
  obtain ⟨R, rfl, hR⟩ := all F row
  exact ⟨R, ⟨by simpa using h.1, hR⟩, rfl⟩
abbrev enr (l : Addr) (ms : List D) (rows : D) (w : Int) (n : Nat) (x y z : Int) : Env :=
  [some (.ow (.par l (.lst ms))), some (.im rows), some (.im (.int w)), some (.im (.int n)), some (.im (.int x)), some (.im (.int y)), some (.im (.int z)), none]
theorem enr_all {rows : D} {w : Int} {n : Nat} {x y z : Int} (h : PL rows) : AllX [some (.im rows), some (.im (.int w)), some (.im (.int n)), some (.im (.int x)), some (.im (.int y)), some (.im (.int z)), none] :=
  ⟨h, .nl (.int _), .nl (.int _), .nl (.int _), .nl (.int _), .nl (.int _), trivial⟩
theorem ills_ix {n : Nat} {r : List D} {v : Int} {Q : D → Prop} (hr : Ls (PI n) n r) (hv : 0 ≤ v ∧ v < n) (k : ∀ q : Int, 0 ≤ q ∧ q < n → Q (.int q)) : dIx (.list r) (.int v) Q := by
  refine ⟨_, atI_in (d := .none) hv.1 (by rw [hr.1]; exact hv.2), ?_⟩
  obtain ⟨_, q, e, hq⟩ := hr.2 _ (getD_mem (l := r) (i := v.toNat) (d := .none) (by rw [hr.1]; omega))
  rw [e]
  exact k q hq
theorem ill_ix {n : Nat} {F : List (List D)} {v : Int} {Q : D → Prop} (hF : LLs (PI n) n F) (hv : 0 ≤ v ∧ v < n) (k : ∀ r, Ls (PI n) n r → Q (.list r)) : dIx (tLL F) (.int v) Q := by
  have l : v.toNat < F.length := by rw [hF.1]; omega
  refine ⟨_, atI_in (d := .none) hv.1 (by rw [List.length_map, hF.1]; exact hv.2), ?_⟩
  have : (F.map PyData.list).getD v.toNat .none = .list F[v.toNat] := by simp [List.getD, l]
  rw [this]
  exact k _ (hF.2 _ (List.getElem_mem l))
theorem st_cell {l : Addr} {ms : List D} {F : List (List D)} {w : Int} {n : Nat} {x y z : Int} {a b : Nat} {u v q : Int} (hm : Dc ms) (n1 : 1 ≤ n) (hF : LLs (PI n) n F)
    (ha : (enr l ms (tLL F) w n x y z)[a]? = some (some (.im (.int u)))) (hu : 0 ≤ u ∧ u < n) (hb : (enr l ms (tLL F) w n x y z)[b]? = some (some (.im (.int v)))) (hv : 0 ≤ v ∧ v < n) (hq : 0 ≤ q ∧ q < n) {QD : Env → Prop}
    (k : ∀ F, LLs (PI n) n F → QD (enr l ms (tLL F) w n x y z)) : gSubBE (dBin dIx (dVar 1) (dVar a)) (dVar b) (.int q) (enr l ms (tLL F) w n x y z) QD := by
  intro p hp
  obtain ⟨rfl, _⟩ := fr_p hp
  refine ⟨.int q, ?_⟩
  simp only [dBin, dVar]
  rw [ha]
  refine ill_ix hF hu fun r hr => ?_
  refine ⟨hp, ?_⟩
  rw [hb]
  refine ⟨hp, r, v, v.toNat, rfl, rfl, ?_, fun d hd => (hr.2 d hd).1, ?_⟩
  · unfold ixN
    rw [if_pos hv.1, if_pos (by rw [hr.1]; exact hv.2)]
  · apply chE_of
    intro d1 c1; obtain ⟨F', rfl, hF'⟩ := ch_ll n1 (ls_set hr (.int q) ⟨q, rfl, hq⟩) hF c1
    intro d2 c2; obtain rfl := ch_nl (.int _) c2
    intro d3 c3; obtain rfl := ch_nl (.int _) c3
    intro d4 c4; obtain rfl := ch_nl (.int _) c4
    intro d5 c5; obtain rfl := ch_nl (.int _) c5
    intro d6 c6; obtain rfl := ch_nl (.int _) c6
    exact k F' hF'
theorem nl_tI (r : List Int) : NL (tI r) := .tup fun d hd => by
  obtain ⟨q, _, rfl⟩ := List.mem_map.mp hd
  exact .int q
theorem pl_tL (C : List (List Int)) : PL (tL C) := .lst fun d hd => by
  obtain ⟨r, _, rfl⟩ := List.mem_map.mp hd
  exact .nl (nl_tI r)
abbrev r7 : DS := sB (sRet (dCall dTupOf (aCons (dOfL (lLc (iSq (dVar 1)) (gNm 7) (dYes) (dCall dTupOf (aCons (dVar 7) (aNil))) [7])) (aNil))))
abbrev r6 : DS := sSeq (sB (sIf (dTst (dBin dEq (dVar 2) (dC (.int 3)))) (sSet 1 (xIm (dOfL (lLc (iSq (dVar 1)) (gNm 7) (dYes) (dCallM 0 2 S__law_drawn_move (aCons (dVar 3) (aNil))) [7])))) (sNx))) r7
abbrev r5 : DS := sSeq (sIfB (dTst (dBin dEq (dVar 2) (dC (.int 2)))) (sAsgB (dTup (aCons (dBin dIx (dBin dIx (dVar 1) (dVar 4)) (dVar 6)) (aCons (dBin dIx (dBin dIx (dVar 1) (dVar 4)) (dVar 5)) (aNil)))) (gTpB NL 2 (gsCons (gSubBE (dBin dIx (dVar 1) (dVar 4)) (dVar 5)) (gsCons (gSubBE (dBin dIx (dVar 1) (dVar 4)) (dVar 6)) (gsNil))))) (sNx)) r6
section
variable {l : Addr} {Q : D → List D → Prop} {n : Nat}
abbrev endE (l : Addr) (Q : D → List D → Prop) : DEnds := { nx := fun ρ => ∃ ms', ρ[0]? = some (some (.ow (.par l (.lst ms')))) ∧ Q .none ms', rt := fun d ρ => ∃ ms', ρ[0]? = some (some (.ow (.par l (.lst ms')))) ∧ Q d ms' }
theorem near7 {ms : List D} {w x y z : Int} {C : List (List Int)} (hm : Dc ms) (hC : Dw n C) (hn : n ≤ 5) (h : ∀ C ms', Dw n C → Dc ms' → Q (tR C) ms') : r7 (endE l Q) (enr l ms (tLL (C.map fun r => r.map PyData.int)) w n x y z) := by
  have cl := hC.1
  have hF := ill_rows hC
  intro p hp
  obtain ⟨rfl, _⟩ := fr_p hp
  walk_at "dd"
  refine ⟨(C.map fun r => r.map PyData.int).map PyData.list, rfl, ?_⟩
  rw [show (C.map fun r => r.map PyData.int).map PyData.list = C.map (fun r => PyData.list (r.map PyData.int)) from by simp only [List.map_map, Function.comp_def]]
  refine wpLc_mapL C (fun r => .list (r.map PyData.int)) tI (by omega) rfl (fun r hr K hK => ?_) (fun _ => rfl) ?_
  · walk_at "dd"
    exact hK _ rfl
  · exact ⟨fr_mk hm (enr_all (ll_pl hF)), ms, rfl, h C ms hC hm⟩
theorem near7' {ms : List D} {w x y z : Int} {C : List (List Int)} (hm : Dc ms) (hC : Dw n C) (hn : n ≤ 5) (h : ∀ C ms', Dw n C → Dc ms' → Q (tR C) ms') : r7 (endE l Q) (enr l ms (tL C) w n x y z) := by
  have cl := hC.1
  intro p hp
  obtain ⟨rfl, _⟩ := fr_p hp
  walk_at "dd"
  refine ⟨C.map tI, rfl, ?_⟩
  refine wpLc_mapL C tI tI (by omega) rfl (fun r hr K hK => ?_) (fun _ => rfl) ?_
  · walk_at "dd"
    exact hK _ rfl
  · exact ⟨fr_mk hm (enr_all (pl_tL C)), ms, rfl, h C ms hC hm⟩
theorem near6 {ms : List D} {w x y z : Int} {F : List (List D)} (hm : Dc ms) (hF : LLs (PI n) n F) (hn : n ≤ 5) (h : ∀ C ms', Dw n C → Dc ms' → Q (tR C) ms') : r6 (endE l Q) (enr l ms (tLL F) w n x y z) := by
  have fl := hF.1
  simp only [r6, sSeq]
  intro p hp
  obtain ⟨rfl, _⟩ := fr_p hp
  walk_at "dd"
  refine ⟨rfl, rfl, ?_⟩
  rw [eqv_int]
  refine ite_ways (fun e => ?_) (fun e => ?_)
  · refine ⟨F.map PyData.list, rfl, ?_⟩
    refine wpLc_all (fun d => ∃ m : List Int, d = tI m ∧ Mv n m) (fun ρ => ∃ ms, ρ = enr p ms (tLL F) w n x y z ∧ Dc ms) ⟨ms, rfl, hm⟩ (by simp; omega) (fun d hd ρ K i k => ?_) (fun _ => rfl) (fun acc ρ al ag i => ?_)
    · obtain ⟨ms, rfl, hm⟩ := i
      walk_at "dd"
      exact ⟨n, rfl, by omega, hm, fun m ms1 hp1 hm1 => k _ _ ⟨m, rfl, by rw [hp1.length_eq, rgI_len], fun x hx => mem_rgI.mp (hp1.mem_iff.mp hx)⟩ ⟨_, rfl, hm1⟩⟩
    · obtain ⟨ms, rfl, hm⟩ := i
      obtain ⟨C, rfl, hC⟩ := all_map ag
      have hC : Dw n C := ⟨by simp at al; omega, hC⟩
      try walk_at "dd"
      exact ⟨fr_mk hm (enr_all (pl_tL C)), near7' hm hC hn h⟩
  · obtain ⟨C, hC, rfl⟩ := rows_ill hF
    exact ⟨fr_mk hm (enr_all (ll_pl hF)), near7 hm hC hn h⟩
theorem near5 {ms : List D} {w x y z : Int} {F : List (List D)} (hm : Dc ms) (hF : LLs (PI n) n F) (hn : n ≤ 5) (n1 : 1 ≤ n) (hx : 0 ≤ x ∧ x < n) (hy : 0 ≤ y ∧ y < n) (hz : 0 ≤ z ∧ z < n) (h : ∀ C ms', Dw n C → Dc ms' → Q (tR C) ms') : r5 (endE l Q) (enr l ms (tLL F) w n x y z) := by
  simp only [r5, sSeq]
  intro p hp
  obtain ⟨rfl, _⟩ := fr_p hp
  walk_at "dd"
  refine ⟨rfl, rfl, hp, ?_⟩
  rw [eqv_int]
  refine ite_ways (fun e => ?_) (fun e => ?_)
  · intro p2 hp2
    obtain ⟨rfl, _⟩ := fr_p hp2
    walk_at "dd"
    refine ill_ix hF hx fun r1 hr1 => ills_ix hr1 hz fun q1 hq1 => ill_ix hF hx fun r2 hr2 => ills_ix hr2 hy fun q2 hq2 => ?_
    refine ⟨by decide, hp2, ?_⟩
    refine ⟨[.int q1, .int q2], rfl, rfl, fun d hd => ?_, ?_⟩
    · simp only [List.mem_cons, List.not_mem_nil, or_false] at hd
      rcases hd with rfl | rfl <;> exact .int _
    refine st_cell (a := 4) (b := 5) hm n1 hF rfl hx rfl hy hq1 fun F1 hF1 => ?_
    refine st_cell (a := 4) (b := 6) hm n1 hF1 rfl hx rfl hz hq2 fun F2 hF2 => ?_
    exact ⟨rfl, near6 hm hF2 hn h⟩
  · exact near6 hm hF hn h
end
theorem v__law_near_rows : VM g__law_near_rows S__law_near_rows 1 7 := fun l ms ds Q _ h => by
  obtain ⟨rfl, hm, h⟩ := h
  unfold g__law_near_rows
  refine ⟨⟨l, fr_mk hm trivial⟩, alln_at trivial, ?_⟩
  simp only [sSeq]
  intro p hp
  obtain ⟨rfl, _⟩ := fr_p hp
  walk_at "dd"
  refine ⟨1, 5, rfl, by decide, by decide, by decide, by decide, hm, fun R n ms1 hR n1 n5 hm1 => ?_⟩
  refine ⟨R, n, rfl, hR, n5, fun C hC => ?_⟩
  have cl := hC.1
  try walk_at "dd"
  refine wpLc_mapL C tI (fun r => .list (r.map PyData.int)) (by omega) rfl (fun r hr K hK => ?_) (fun _ => rfl) ?_
  · walk_at "dd"
    exact hK _ rfl
  rw [show C.map (fun r => PyData.list (r.map PyData.int)) = (C.map fun r => r.map PyData.int).map PyData.list from by simp only [List.map_map, Function.comp_def]]
  have hF := ill_rows hC
  have fl := hF.1
  generalize (C.map fun r => r.map PyData.int) = F at hF fl
  refine ⟨fr_mk hm1 ⟨ll_pl hF, trivial⟩, ?_⟩
  intro p2 hp2
  obtain ⟨rfl, _⟩ := fr_p hp2
  walk_at "dd"
  refine ⟨4, rfl, by decide, by decide, hm1, fun w ms2 w0 w1 hm2 => ?_⟩
  try walk_at "dd"
  rw [fl]
  refine ⟨fr_mk hm2 ⟨ll_pl hF, .nl (.int _), .nl (.int _), trivial⟩, ?_⟩
  intro p3 hp3
  obtain ⟨rfl, _⟩ := fr_p hp3
  walk_at "dd"
  refine ⟨n, rfl, by omega, by simp only [T60]; omega, hm2, fun x ms3 x0 x1 hm3 => ?_⟩
  try walk_at "dd"
  refine ⟨n, rfl, by omega, by simp only [T60]; omega, hm3, fun y ms4 y0 y1 hm4 => ?_⟩
  try walk_at "dd"
  refine ⟨n, rfl, by omega, by simp only [T60]; omega, hm4, fun z ms5 z0 z1 hm5 => ?_⟩
  try walk_at "dd"
  refine ⟨fr_mk hm5 (enr_all (ll_pl hF)), ?_⟩
  have hh : ∀ C ms', Dw n C → Dc ms' → Q (tR C) ms' := fun C ms' hC hm' => h C n ms' hC n1 n5 hm'
  intro p4 hp4
  obtain ⟨rfl, _⟩ := fr_p hp4
  walk_at "dd"
  refine ⟨rfl, rfl, hp4, ?_⟩
  rw [eqv_int]
  refine ite_ways (fun e => ?_) (fun e => ?_)
  · intro p5 hp5
    obtain ⟨rfl, _⟩ := fr_p hp5
    walk_at "dd"
    refine ⟨hp5, ?_⟩
    refine st_cell (a := 4) (b := 5) hm5 n1 hF rfl ⟨x0, x1⟩ rfl ⟨y0, y1⟩ ⟨z0, z1⟩ fun F1 hF1 => ?_
    exact near5 hm5 hF1 n5 n1 ⟨x0, x1⟩ ⟨y0, y1⟩ ⟨z0, z1⟩ hh
  · exact near5 hm5 hF n5 n1 ⟨x0, x1⟩ ⟨y0, y1⟩ ⟨z0, z1⟩ hh
end Dn.K69
set_option Elab.async false
set_option linter.all false
set_option maxRecDepth 100000
set_option autoImplicit false
set_option maxHeartbeats 4000000
namespace Dn.K69
open PySem L2 Evl PySem.Spec PyProof.Rows
local macro_rules | `(tactic| walk_at "dd") => `(tactic| simp only [sSeq, sIf, sSet, sRet, sRetN, sNx, sEx, sAsg, sPar, dTOr, dTAnd, dTNot, dTst, dIsi, dVar, dC, dBin, dChain, dNeg, dI2, dAnd, dOr, dNot, dIfE, dCall, dCallF, aCons, aNil, dTup, lLst, dOfL, xIm, xOw, gNm, gTp, gsCons, gsNil, dYes, envD, dLen_tR, dLen_tI, dLen_tup, dLen_lst, seq_tR, seq_tI, seq_tup, seq_lst, dIs, dIsNot, dNe, dEq, dTupOf, dSl, oNone, oSome, iSq, iEn, iR1, iR2, sFor, lLc, sNever, dTRg, rg1, rg2, lRg, wipeD, isN, optD,
  gTpL, dIxP, sSub, dApp, dPopAt, dExt, dCallM, dCallO, dBinO, dTupO, lOf, lOfO, sRetO, iOw, dVarF, lCat, lCall, dAbs, dMax2, dMin2, dInt, atO, setO, MO.getL, MO.putL, Option.isSome_some,
  dInK, dGetK, dGetD, dInD, dGet1, lKeys, lSort, dLenSet, dLenSetL, dLenSet2, sPar3, dRevT, sPutK, xDct, xDct1, sRetK, atK, keyD, sAugI,
  kit_int, kit_bool, kit_tuple, kit_str, List.map_cons, List.map_nil, List.cons_append, List.nil_append, List.replicate, List.set_cons_zero, List.set_cons_succ, List.getElem?_cons_zero, List.getElem?_cons_succ, List.length_cons, List.length_nil, List.length_map, Nat.reduceAdd, Nat.reduceSub, Bool.not_true, Bool.not_false, Bool.false_eq_true, if_true, if_false, true_and, reduceCtorEq, Bool.true_eq_false, rgD_rgI, Option.some.injEq, exists_eq_left', and_true])
theorem set_disp {i k : Nat} {ρ : Env} {L : List D} {a : DA} {E : DEnds} (e : ρ[i]? = some (some (.im (.list L)))) (h : AE okV k a ρ) (hl : L.length + k ≤ 16777216)
    (hq : ∀ M, M.length = k → (∀ v, v ∈ M → okV v) → E.nx (ρ.set i (some (.im (.list (L ++ M)))))) : sSet i (xIm (dBin dAdd (dVar i) (dOfL (lLst a)))) E ρ := by
  unfold sSet xIm dBin dVar
  rw [e]
  exact h _ fun M hm hM => ⟨by omega, by omega, hq M hm hM⟩
theorem fl_bool (b : Bool) : Fl (.bool b) := ⟨rfl, by simp [PyData.depth]⟩
theorem ee_eq1 {i : Nat} {x : Int} {ρ : Env} (e : ρ[i]? = some (some (.im (.int x)))) : EE Fl (dBin dEq (dVar i) (dC (.int 1))) ρ := fun Q hq => by
  unfold dBin dVar
  rw [e]
  exact ⟨rfl, rfl, hq _ (fl_bool _)⟩
theorem ee_lst {k : Nat} {a : DA} {ρ : Env} (h : AE Fl k a ρ) (hk : k ≤ 1000 := by decide) : EE okV (dOfL (lLst a)) ρ := fun Q hq => h _ fun ds hl hd => ⟨by omega, hq _ (okV_no (by simp))⟩
theorem ee_str {i : Nat} {x : Int} {ρ : Env} (e : ρ[i]? = some (some (.im (.int x)))) (h : 0 ≤ x ∧ x < 5) : EE Fl (dCall dStrI (aCons (dVar i) aNil)) ρ := fun Q hq => by
  unfold dCall aCons aNil dVar
  rw [e]
  obtain rfl | rfl | rfl | rfl | rfl : x = 0 ∨ x = 1 ∨ x = 2 ∨ x = 3 ∨ x = 4 := by omega
  all_goals exact ⟨by decide +kernel, hq _ (fl_str (by decide +kernel))⟩
theorem ee_one {i : Nat} {x : Int} {ρ : Env} (e : ρ[i]? = some (some (.im (.int x)))) : EE Fl (dTup (aCons (dVar i) aNil)) ρ := fun Q hq => by
  unfold dTup aCons aNil dVar
  rw [e]
  exact ⟨by simp, hq _ ⟨by simp [PyData.canLay0, PyData.canLayAll0], by simp [PyData.depth, PyData.depthAll]⟩⟩
theorem par_len {k : Nat} {ρ : Env} {C : List (List Int)} {a : DA} {E : DEnds} (e : ρ[1]? = some (some (.im (tR C)))) (h : AE okV k a ρ) (hk : k ≤ 16777216)
    (hq : ∀ L, L.length = k → (∀ v, v ∈ L → okV v) → E.nx ((ρ.set 3 (some (.im (.int C.length)))).set 4 (some (.im (.list L))))) : sPar 3 4 (xIm (dCall dLen (aCons (dVar 1) aNil))) (xIm (dOfL (lLst a))) E ρ := by
  unfold sPar xIm dCall aCons aNil dVar
  rw [e]
  show dLen [tR C] _
  rw [dLen_tR]
  exact h _ fun L hl hL => ⟨by omega, hq L hl hL⟩
section
variable {l : Addr} {ms : List D} {C : List (List Int)} {t : D} {n : Nat} {L : List D} {o : Option SV} {x y z : Int}
abbrev env9 (l : Addr) (ms : List D) (C : List (List Int)) (t : D) (n : Nat) (L : List D) (o : Option SV) (x y z : Int) : Env := [some (SV.ow (MO.par l (MO.lst ms))), some (SV.im (tR C)), some (SV.im t), some (SV.im (.int n)), some (SV.im (.list L)), o, some (SV.im (.int x)), some (SV.im (.int y)), some (SV.im (.int z))]
theorem d1 : AE okV 5 (aCons (dTup (aCons (dC (.str "row")) (aCons (dVar 6) (aCons (dVar 7) (aCons (dVar 8) (aNil)))))) (aCons (dTup (aCons (dC (.str "three")) (aCons (dVar 6) (aCons (dVar 7) (aCons (dVar 8) (aNil)))))) (aCons (dTup (aCons (dC (.str "left")) (aCons (dVar 6) (aCons (dVar 7) (aCons (dVar 8) (aNil)))))) (aCons (dTup (aCons (dC (.str "three")) (aCons (dVar 6) (aCons (dVar 7) (aNil))))) (aCons (dTup (aCons (dC (.str "row")) (aCons (dVar 6) (aCons (dVar 7) (aCons (dVar 3) (aNil)))))) (aNil)))))) (env9 l ms C t n L o x y z) := by
  have rF : Fl (.str "row") := fl_str (by decide +kernel)
  have tF : Fl (.str "three") := fl_str (by decide +kernel)
  have lF : Fl (.str "left") := fl_str (by decide +kernel)
  have e : ∀ {s : Str}, Fl (.str s) → AE Fl 4 (aCons (dC (.str s)) (aCons (dVar 6) (aCons (dVar 7) (aCons (dVar 8) (aNil))))) (env9 l ms C t n L o x y z) := fun f => ae_cons (ee_c f) (ae_cons (ee_v rfl (fl_int x)) (ae_cons (ee_v rfl (fl_int y)) (ae_cons (ee_v rfl (fl_int z)) ae_nil)))
  refine ae_cons (ee_tup (e rF)) (ae_cons (ee_tup (e tF)) (ae_cons (ee_tup (e lF)) (ae_cons (ee_tup (ae_cons (ee_c tF) (ae_cons (ee_v rfl (fl_int x)) (ae_cons (ee_v rfl (fl_int y)) ae_nil)))) (ae_cons (ee_tup (ae_cons (ee_c rF) (ae_cons (ee_v rfl (fl_int x)) (ae_cons (ee_v rfl (fl_int y)) (ae_cons (ee_v rfl (fl_int n)) ae_nil))))) ae_nil))))
theorem d2 : AE okV 4 (aCons (dTup (aCons (dC (.str "three")) (aCons (dVar 6) (aCons (dVar 7) (aCons (dNeg (dC (.int 1))) (aNil)))))) (aCons (dTup (aCons (dC (.str "row")) (aCons (dVar 6) (aCons (dBin dEq (dVar 7) (dC (.int 1))) (aCons (dVar 8) (aNil)))))) (aCons (dTup (aCons (dC (.str "three")) (aCons (dBin dEq (dVar 6) (dC (.int 1))) (aCons (dVar 7) (aCons (dVar 8) (aNil)))))) (aCons (dTup (aCons (dC (.str "three")) (aCons (dVar 6) (aCons (dVar 7) (aCons (dBin dPow (dC (.int 10)) (dC (.int 60))) (aNil)))))) (aNil))))) (env9 l ms C t n L o x y z) := by
  have rF : Fl (.str "row") := fl_str (by decide +kernel)
  have tF : Fl (.str "three") := fl_str (by decide +kernel)
  have e60 : CPow 10 60 := by unfold CPow; decide +kernel
  refine ae_cons (ee_tup (ae_cons (ee_c tF) (ae_cons (ee_v rfl (fl_int x)) (ae_cons (ee_v rfl (fl_int y)) (ae_cons (ee_neg (fl_int _)) ae_nil))))) (ae_cons (ee_tup (ae_cons (ee_c rF) (ae_cons (ee_v rfl (fl_int x)) (ae_cons (ee_eq1 rfl) (ae_cons (ee_v rfl (fl_int z)) ae_nil)))))
    (ae_cons (ee_tup (ae_cons (ee_c tF) (ae_cons (ee_eq1 rfl) (ae_cons (ee_v rfl (fl_int y)) (ae_cons (ee_v rfl (fl_int z)) ae_nil))))) (ae_cons (ee_tup (ae_cons (ee_c tF) (ae_cons (ee_v rfl (fl_int x)) (ae_cons (ee_v rfl (fl_int y)) (ae_cons (fun Q hq => ⟨e60, hq _ (fl_int _)⟩) ae_nil))))) ae_nil)))
theorem d3 (hx : 0 ≤ x ∧ x < 5) : AE okV 4 (aCons (dOfL (lLst (aCons (dC (.str "three")) (aCons (dVar 6) (aCons (dVar 7) (aCons (dVar 8) (aNil))))))) (aCons (dTup (aCons (dC (.str "row")) (aCons (dVar 6) (aCons (dVar 8) (aCons (dVar 7) (aNil)))))) (aCons (dTup (aCons (dC (.str "three")) (aCons (dVar 6) (aCons (dTup (aCons (dVar 7) (aNil))) (aCons (dVar 8) (aNil)))))) (aCons (dTup (aCons (dC (.str "three")) (aCons (dCall dStrI (aCons (dVar 6) (aNil))) (aCons (dVar 7) (aCons (dVar 8) (aNil)))))) (aNil))))) (env9 l ms C t n L o x y z) := by
  have rF : Fl (.str "row") := fl_str (by decide +kernel)
  have tF : Fl (.str "three") := fl_str (by decide +kernel)
  refine ae_cons (ee_lst (ae_cons (ee_c tF) (ae_cons (ee_v rfl (fl_int x)) (ae_cons (ee_v rfl (fl_int y)) (ae_cons (ee_v rfl (fl_int z)) ae_nil))))) (ae_cons (ee_tup (ae_cons (ee_c rF) (ae_cons (ee_v rfl (fl_int x)) (ae_cons (ee_v rfl (fl_int z)) (ae_cons (ee_v rfl (fl_int y)) ae_nil)))))
    (ae_cons (ee_tup (ae_cons (ee_c tF) (ae_cons (ee_v rfl (fl_int x)) (ae_cons (ee_one rfl) (ae_cons (ee_v rfl (fl_int z)) ae_nil))))) (ae_cons (ee_tup (ae_cons (ee_c tF) (ae_cons (ee_str rfl hx) (ae_cons (ee_v rfl (fl_int y)) (ae_cons (ee_v rfl (fl_int z)) ae_nil))))) ae_nil)))
end
theorem v__law_values : VM g__law_values S__law_values 3 6 := fun l ms ds Q _ h => by
  obtain ⟨C, n, p, rfl, hC, n1, n5, hp, hm, h⟩ := h
  have cl := hC.1
  have sF : Fl (.str "shadow") := fl_str (by decide +kernel)
  have rF : Fl (.str "row") := fl_str (by decide +kernel)
  have tF : Fl (.str "three") := fl_str (by decide +kernel)
  have lF : Fl (.str "left") := fl_str (by decide +kernel)
  obtain ⟨xs, rfl, xl, xf⟩ := paper_shape sF (fun s hs => by
    simp only [List.mem_cons, List.not_mem_nil, or_false] at hs
    rcases hs with rfl | rfl
    · exact rF
    · exact tF) hp
  clear hp
  have pv : okV (.tuple xs) := okV_tup (by omega) xf
  unfold g__law_values
  have first : AE okV 10 (aCons (dVar 2) (aCons (dOfL (lOf (dVar 2))) (aCons (dBin dAdd (dVar 2) (dTup (aCons (dC (.int 0)) (aNil)))) (aCons (dSl (dVar 2) (oSome (dC (.int 1))) (oNone)) (aCons (dC .none) (aCons (dTup (aNil)) (aCons (dC (.str "shadow")) (aCons (dTup (aCons (dC (.str "shadow")) (aCons (dC (.int 0)) (aNil)))) (aCons (dTup (aCons (dC (.str "shadow")) (aNil))) (aCons (dTup (aCons (dTup (aNil)) (aCons (dC (.int 0)) (aCons (dC (.int 0)) (aCons (dC (.int 0)) (aNil)))))) (aNil)))))))))))
      [some (SV.ow (MO.par l (MO.lst ms))), some (SV.im (tR C)), some (SV.im (PyData.tuple xs)), none, none, none, none, none, none] := by
    refine ae_cons (ee_v rfl pv) (ae_cons (fun Q hq => ?_) (ae_cons (fun Q hq => ?_) (ae_cons (fun Q hq => ?_) (ae_cons (ee_c (okV_no (by simp))) (ae_cons (ee_tup ae_nil) (ae_cons (ee_c (okV_no (by simp)))
      (ae_cons (ee_tup (ae_cons (ee_c sF) (ae_cons (ee_c (fl_int 0)) ae_nil))) (ae_cons (ee_tup (ae_cons (ee_c sF) ae_nil)) (ae_cons (ee_tup (ae_cons (fun Q hq => ⟨by decide, hq _ ⟨by decide +kernel, by decide +kernel⟩⟩) (ae_cons (ee_c (fl_int 0)) (ae_cons (ee_c (fl_int 0)) (ae_cons (ee_c (fl_int 0)) ae_nil))))) ae_nil)))))))))
    · exact hq _ (okV_no (by simp))
    · refine ⟨by decide, ?_⟩
      refine ⟨by show xs.length + 1 ≤ 16777216; omega, hq _ (okV_tup (by simp; omega) fun x hx => ?_)⟩
      rcases List.mem_append.mp hx with hx | hx
      · exact xf x hx
      · rw [List.mem_singleton.mp hx]; exact fl_int 0
    · refine hq (.tuple (cutD xs (some 1) none)) (okV_tup ?_ fun x hx => ?_)
      · unfold cutD; simp only [List.length_take, List.length_drop]; omega
      · unfold cutD at hx
        exact xf x (List.mem_of_mem_drop (List.mem_of_mem_take hx))
  simp only [sSeq, envD, List.map_cons, List.map_nil, List.replicate, List.cons_append, List.nil_append]
  refine par_len (k := 10) rfl first (by decide) fun L hl hL => ?_
  rw [cl]
  have v0 : Vs L 10 := ⟨hL, by omega⟩
  refine ⟨⟨by decide, by decide, by decide, by decide⟩, ?_⟩
  refine wpFor_n (fun k ρ => ∃ L ms o x y z, ρ = [some (SV.ow (MO.par l (MO.lst ms))), some (SV.im (tR C)), some (SV.im (.tuple xs)), some (SV.im (.int n)), some (SV.im (.list L)), o, x, y, z] ∧ Dc ms ∧ Vs L (10 + 13 * k)) ⟨_, _, _, _, _, _, rfl, hm, v0⟩ (fun d hd k ρ K hk hI kk => ?_) (fun ρ hI => ?_)
  · obtain ⟨L, ms, a, b, c, d', rfl, hm, vL⟩ := hI
    have k4 : k < 4 := by
      have e4 : (rgD 0 4).length = 4 := by decide
      rw [e4] at hk; exact hk
    have vl := vL.2
    refine ⟨rfl, rfl, ms, rfl, n, rfl, by omega, by simp only [T60]; omega, hm, fun x ms1 x0 x1 hm1 => ?_⟩
    refine ⟨rfl, rfl, ms1, rfl, n, rfl, by omega, by simp only [T60]; omega, hm1, fun y ms2 y0 y1 hm2 => ?_⟩
    refine ⟨rfl, rfl, ms2, rfl, n, rfl, by omega, by simp only [T60]; omega, hm2, fun z ms3 z0 z1 hm3 => ?_⟩
    refine set_disp (i := 4) (k := 5) (L := L) rfl d1 (by omega) fun M1 l1 h1 => ?_
    refine set_disp (i := 4) (k := 4) (L := L ++ M1) rfl d2 (by rw [List.length_append]; omega) fun M2 l2 h2 => ?_
    refine set_disp (i := 4) (k := 4) (L := L ++ M1 ++ M2) rfl (d3 ⟨x0, by omega⟩) (by rw [List.length_append, List.length_append]; omega) fun M3 l3 h3 => ?_
    refine kk _ ⟨L ++ M1 ++ M2 ++ M3, ms3, _, _, _, _, rfl, hm3, ?_⟩
    have := ((vL.app (k := 5) h1 (by omega)).app (k := 4) h2 (by omega)).app (k := 4) h3 (by omega)
    exact ⟨this.1, by have := this.2; omega⟩
  · obtain ⟨L, ms, a, b, c, d', rfl, hm, vL⟩ := hI
    have e4 : (rgD 0 4).length = 4 := by decide
    rw [e4] at vL
    exact ⟨ms, rfl, h L ms vL.1 (by have := vL.2; omega) hm⟩
end Dn.K69
set_option Elab.async false
set_option linter.all false
set_option maxRecDepth 100000
set_option autoImplicit false
set_option maxHeartbeats 4000000
namespace Dn
open PySem L2 Evl PySem.Spec PyProof.Rows
local macro_rules | `(tactic| walk_at "dd") => `(tactic| simp only [sSeq, sIf, sSet, sRet, sRetN, sNx, sEx, sAsg, sPar, dTOr, dTAnd, dTNot, dTst, dIsi, dVar, dC, dBin, dChain, dNeg, dI2, dAnd, dOr, dNot, dIfE, dCall, dCallF, aCons, aNil, dTup, lLst, dOfL, xIm, xOw, gNm, gTp, gsCons, gsNil, dYes, envD, dLen_tR, dLen_tI, dLen_tup, dLen_lst, seq_tR, seq_tI, seq_tup, seq_lst, dIs, dIsNot, dNe, dEq, dTupOf, dSl, oNone, oSome, iSq, iEn, iR1, iR2, sFor, lLc, sNever, dTRg, rg1, rg2, lRg, wipeD, isN, optD,
  gTpL, dIxP, sSub, dApp, dPopAt, dExt, dCallM, dCallO, dBinO, dTupO, lOf, lOfO, sRetO, iOw, dVarF, lCat, lCall, dAbs, dMax2, dMin2, dInt, atO, setO, MO.getL, MO.putL, Option.isSome_some,
  dInK, dGetK, dGetD, dInD, dGet1, lKeys, lSort, dLenSet, dRevT, sPutK, xDct, xDct1, sRetK, atK, keyD, sAugI,
  kit_int, kit_bool, kit_tuple, kit_str, List.map_cons, List.map_nil, List.cons_append, List.nil_append, List.replicate, List.set_cons_zero, List.set_cons_succ, List.getElem?_cons_zero, List.getElem?_cons_succ, List.length_cons, List.length_nil, List.length_map, Nat.reduceAdd, Nat.reduceSub, Bool.not_true, Bool.not_false, Bool.false_eq_true, if_true, if_false, true_and, reduceCtorEq, Bool.true_eq_false, rgD_rgI, Option.some.injEq, exists_eq_left', and_true])
def PI (n : Nat) (d : D) : Prop := ∃ i : Int, d = .int i ∧ 0 ≤ i ∧ i < n
theorem ll_dots {n : Nat} {C : List (List Int)} (h : Dw n C) : LLs (PI n) n (C.map fun r => r.map PyData.int) := ⟨by simp [h.1], fun r hr => by
  obtain ⟨s, hs, rfl⟩ := List.mem_map.mp hr
  have := h.2 s hs
  refine ⟨by simp [this.1], fun d hd => ?_⟩
  obtain ⟨q, hq, rfl⟩ := List.mem_map.mp hd
  exact ⟨.int q, q, rfl, this.2 q hq⟩⟩
theorem dots_ll {n : Nat} {F : List (List D)} (h : LLs (PI n) n F) : ∃ C, Dw n C ∧ F = C.map fun r => r.map PyData.int := by
  have row : ∀ r, r ∈ F → ∃ s : List Int, r = s.map PyData.int ∧ Mv n s := fun r hr => by
    have hl := h.2 r hr
    obtain ⟨C, rfl, hC⟩ := all_map (f := PyData.int) (R := fun i => 0 ≤ i ∧ i < (n : Int)) (acc := r) fun y hy => by
      obtain ⟨_, q, e, hq⟩ := hl.2 y hy
      exact ⟨q, e, hq⟩
    exact ⟨C, rfl, by simpa using hl.1, hC⟩
  have all : ∀ (F : List (List D)), (∀ r, r ∈ F → ∃ s : List Int, r = s.map PyData.int ∧ Mv n s) → ∃ C : List (List Int), F = C.map (fun r => r.map PyData.int) ∧ ∀ r, r ∈ C → Mv n r := by
    intro F
    induction F with
    | nil => exact fun _ => ⟨[], rfl, by simp⟩
    | cons r F ih =>
      intro hh
      obtain ⟨s, rfl, hs⟩ := hh r (by simp)
      obtain ⟨R, rfl, hR⟩ := ih fun r hr => hh r (by simp [hr])
      exact ⟨s :: R, rfl, fun x hx => by rcases List.mem_cons.mp hx with rfl | hx; exact hs; exact hR x hx⟩
  obtain ⟨C, rfl, hC⟩ := all F row
  exact ⟨C, ⟨by simpa using h.1, hC⟩, rfl⟩
abbrev en2 (l : Addr) (ms : List D) (n : Nat) (w : D) (F : List (List D)) (x y z : Int) (line : List D) : Env :=
  [some (.ow (.par l (.lst ms))), none, some (.im (.int n)), some (.im w), some (.im (tLL F)), some (.im (.int x)), some (.im (.int y)), some (.im (.int z)), some (.im (.list line)), none, none]
theorem en2_all {n : Nat} {w : D} {F : List (List D)} {x y z : Int} {line : List D} (nw : NL w) (hF : LLs (PI n) n F) (hl : Ls (PI n) n line) :
    AllX [none, some (.im (.int n)), some (.im w), some (.im (tLL F)), some (.im (.int x)), some (.im (.int y)), some (.im (.int z)), some (.im (.list line)), none, none] :=
  ⟨.nl (.int _), .nl nw, ll_pl hF, .nl (.int _), .nl (.int _), .nl (.int _), ls_pl hl, trivial⟩
theorem ixN_in {n : Nat} {v : Int} (hv : 0 ≤ v ∧ v < n) : ixN n v = some v.toNat := by
  unfold ixN
  rw [if_pos hv.1, if_pos hv.2]
theorem st2 {l : Addr} {ms : List D} {n : Nat} {w : D} {F : List (List D)} {x y z : Int} {line : List D} {j : Nat} {v q : Int} (hm : Dc ms) (n1 : 1 ≤ n) (nw : NL w) (hF : LLs (PI n) n F) (hl : Ls (PI n) n line)
    (hj : (en2 l ms n w F x y z line)[j]? = some (some (.im (.int v)))) (hv : 0 ≤ v ∧ v < n) (hq : 0 ≤ q ∧ q < n) {QD : Env → Prop}
    (k : ∀ F line, LLs (PI n) n F → Ls (PI n) n line → QD (en2 l ms n w F x y z line)) : gSubB 8 (dVar j) (.int q) (en2 l ms n w F x y z line) QD := by
  intro p hp
  obtain ⟨rfl, _⟩ := fr_p hp
  refine ⟨.int q, ⟨_, rfl⟩, ?_⟩
  unfold dVar
  rw [hj]
  have he : Ls (PI n) n (line.set v.toNat (.int q)) := ls_set hl (.int q) ⟨q, rfl, hq⟩
  refine ⟨fr_mk hm (en2_all nw hF hl), line, v, v.toNat, rfl, rfl, by rw [hl.1]; exact ixN_in hv, fun d hd => (hl.2 d hd).1, ?_⟩
  apply chE_of
  intro d2 c2; obtain rfl := ch_nl (.int _) c2
  intro d3 c3; obtain rfl := ch_nl nw c3
  intro d4 c4; obtain ⟨F', rfl, hF'⟩ := ch_ll n1 he hF c4
  intro d5 c5; obtain rfl := ch_nl (.int _) c5
  intro d6 c6; obtain rfl := ch_nl (.int _) c6
  intro d7 c7; obtain rfl := ch_nl (.int _) c7
  intro d8 c8; obtain ⟨line', rfl, hl'⟩ := ch_ls he hl c8
  exact k F' line' hF' hl'
theorem ch2_ls {P : D → Prop} {n : Nat} {es r : List D} {d' : D} (hr : Ls P n r) (c : Ch2 es (.list r) d') : d' = .list r := by
  cases c with
  | nl n => cases n
  | l1 _ => rfl
  | repl _ m => obtain ⟨d, hd, nd⟩ := m; exact absurd (hr.2 d hd).1.notL nd
  | lst m _ _ => obtain ⟨d, hd, nd⟩ := m; exact absurd (hr.2 d hd).1.notL nd
theorem ch2_ll {P : D → Prop} {n : Nat} {F F2 : List (List D)} {d' : D} (n1 : 1 ≤ n) (hF : LLs P n F) (h2 : LLs P n F2) (c : Ch2 (F2.map .list) (tLL F) d') : ∃ F', d' = tLL F' ∧ LLs P n F' := by
  unfold tLL at c
  cases c with
  | nl n => cases n
  | l1 h =>
    obtain ⟨es, e, ne⟩ := h
    match F, hF with
    | [], hF => have := hF.1; simp at this; omega
    | r :: F, _ =>
      have := PyData.list.inj e
      subst this
      have := ne (.list r) (by simp)
      cases this
  | repl _ _ => exact ⟨F2, rfl, h2⟩
  | @lst _ ds' _ l h =>
    refine ⟨F, ?_, hF⟩
    unfold tLL
    congr 1
    refine List.ext_getElem? fun i => ?_
    by_cases il : i < F.length
    · have e1 : (F.map PyData.list)[i]? = some (.list F[i]) := by simp [il]
      have e2 := List.getElem?_eq_getElem (show i < ds'.length by simp at l; omega)
      have := ch2_ls (hF.2 _ (List.getElem_mem il)) (h i _ _ e1 e2)
      rw [e1, e2, this]
    · rw [List.getElem?_eq_none (by simp at l; omega), List.getElem?_eq_none (by simp; omega)]
theorem l1_ls {P : D → Prop} {n : Nat} {r : List D} (h : Ls P n r) : L1 (.list r) := ⟨r, rfl, fun e he => (h.2 e he).1⟩
theorem st2o {l : Addr} {ms : List D} {n : Nat} {w : D} {F : List (List D)} {x y z : Int} {line r : List D} {j : Nat} {v : Int} (hm : Dc ms) (n1 : 1 ≤ n) (nw : NL w) (hF : LLs (PI n) n F) (hl : Ls (PI n) n line)
    (hj : (en2 l ms n w F x y z line)[j]? = some (some (.im (.int v)))) (hv : 0 ≤ v ∧ v < n) (hr : Ls (PI n) n r) {QD : Env → Prop}
    (k : ∀ F, LLs (PI n) n F → QD (en2 l ms n w F x y z line)) : gSubB2 4 (dVar j) (.list r) (en2 l ms n w F x y z line) QD := by
  intro p hp
  obtain ⟨rfl, _⟩ := fr_p hp
  refine ⟨l1_ls hr, ⟨_, rfl⟩, ?_⟩
  unfold dVar
  rw [hj]
  have hF2 : LLs (PI n) n (F.set v.toNat r) := ⟨by simpa using hF.1, fun s hs => (List.mem_or_eq_of_mem_set hs).elim (hF.2 s) fun z => by rw [z]; exact hr⟩
  refine ⟨fr_mk hm (en2_all nw hF hl), F.map .list, v, v.toNat, rfl, rfl, by rw [List.length_map, hF.1]; exact ixN_in hv, fun d hd => ?_, ?_, ?_⟩
  · obtain ⟨s, hs, rfl⟩ := List.mem_map.mp hd
    exact l1_ls (hF.2 s hs)
  · intro e
    have := hF.1
    have e2 : (F.map PyData.list).length = 0 := by rw [e]; rfl
    simp at e2
    subst e2
    simp at this
    omega
  rw [show (F.map PyData.list).set v.toNat (.list r) = (F.set v.toNat r).map PyData.list from by rw [List.map_set]]
  apply chE_of
  intro d2 c2; obtain rfl := ch2_nl (.int _) c2
  intro d3 c3; obtain rfl := ch2_nl nw c3
  intro d4 c4; obtain ⟨F', rfl, hF'⟩ := ch2_ll n1 hF hF2 c4
  intro d5 c5; obtain rfl := ch2_nl (.int _) c5
  intro d6 c6; obtain rfl := ch2_nl (.int _) c6
  intro d7 c7; obtain rfl := ch2_nl (.int _) c7
  intro d8 c8; obtain rfl := ch2_ls hl c8
  exact k F' hF'
theorem lsi_ix {n : Nat} {r : List D} {v : Int} {Q : D → Prop} (hr : Ls (PI n) n r) (hv : 0 ≤ v ∧ v < n) (k : ∀ q : Int, 0 ≤ q → q < n → Q (.int q)) : dIx (.list r) (.int v) Q := by
  refine ⟨_, atI_in (d := .none) hv.1 (by rw [hr.1]; exact hv.2), ?_⟩
  obtain ⟨_, q, e, h0, h1⟩ := hr.2 _ (getD_mem (l := r) (i := v.toNat) (d := .none) (by rw [hr.1]; omega))
  rw [e]
  exact k q h0 h1
theorem lli_ix {n : Nat} {F : List (List D)} {v : Int} {Q : D → Prop} (hF : LLs (PI n) n F) (hv : 0 ≤ v ∧ v < n) (k : ∀ r, Ls (PI n) n r → Q (.list r)) : dIx (tLL F) (.int v) Q := by
  have l : v.toNat < F.length := by rw [hF.1]; omega
  refine ⟨_, atI_in (d := .none) hv.1 (by rw [List.length_map, hF.1]; exact hv.2), ?_⟩
  have : (F.map PyData.list).getD v.toNat .none = .list F[v.toNat] := by simp [List.getD, l]
  rw [this]
  exact k _ (hF.2 _ (List.getElem_mem l))
theorem na_ll {n : Nat} {F : List (List D)} (n1 : 1 ≤ n) (hF : LLs (PI n) n F) : NA (tLL F) := by
  have row : ∀ r, Ls (PI n) n r → NA (.list r) := fun r hr => by
    match r, hr with
    | [], hr => have := hr.1; simp at this; omega
    | d :: r, hr =>
      obtain ⟨_, q, rfl, _⟩ := hr.2 d (by simp)
      exact .lst (by simp [isTupD]) (.nl (.int q)) fun e he => .nl (hr.2 e (by simp [he])).1
  match F, hF with
  | [], hF => have := hF.1; simp at this; omega
  | r :: F, hF =>
    refine .lst (by simp [isTupD]) (row r (hF.2 r (by simp))) fun d hd => ?_
    obtain ⟨s, hs, rfl⟩ := List.mem_map.mp hd
    exact row s (hF.2 s (by simp [hs]))
def AllA : Env → Prop
  | [] => True
  | none :: l => AllA l
  | some (.im d) :: l => NA d ∧ AllA l
  | some (.ow _) :: l => AllA l
theorem alla_at : ∀ {l : Env}, AllA l → ∀ (i : Nat) (d : D), l[i]? = some (some (.im d)) → NA d
  | [], _, i, d, e => by simp at e
  | none :: l, h, 0, d, e => by simp at e
  | none :: l, h, i + 1, d, e => alla_at (l := l) h i d (by simpa using e)
  | some (.im d') :: l, h, 0, d, e => by simp at e; subst e; exact h.1
  | some (.im d') :: l, h, i + 1, d, e => alla_at (l := l) h.2 i d (by simpa using e)
  | some (.ow _) :: l, h, 0, d, e => by simp at e
  | some (.ow _) :: l, h, i + 1, d, e => alla_at (l := l) h i d (by simpa using e)
end Dn
set_option Elab.async false
set_option linter.all false
set_option maxRecDepth 100000
set_option autoImplicit false
set_option maxHeartbeats 4000000
namespace Dn
open PySem L2 Evl PySem.Spec PyProof.Rows
local macro_rules | `(tactic| walk_at "dd") => `(tactic| simp only [sSeq, sIf, sSet, sRet, sRetN, sNx, sEx, sAsg, sPar, dTOr, dTAnd, dTNot, dTst, dIsi, dVar, dC, dBin, dChain, dNeg, dI2, dAnd, dOr, dNot, dIfE, dCall, dCallF, aCons, aNil, dTup, lLst, dOfL, xIm, xOw, gNm, gTp, gsCons, gsNil, dYes, envD, dLen_tR, dLen_tI, dLen_tup, dLen_lst, seq_tR, seq_tI, seq_tup, seq_lst, dIs, dIsNot, dNe, dEq, dTupOf, dSl, oNone, oSome, iSq, iEn, iR1, iR2, sFor, lLc, sNever, dTRg, rg1, rg2, lRg, wipeD, isN, optD,
  gTpL, dIxP, sSub, dApp, dPopAt, dExt, dCallM, dCallO, dBinO, dTupO, lOf, lOfO, sRetO, iOw, dVarF, lCat, lCall, dAbs, dMax2, dMin2, dInt, atO, setO, MO.getL, MO.putL, Option.isSome_some,
  dInK, dGetK, dGetD, dInD, dGet1, lKeys, lSort, dLenSet, dRevT, sPutK, xDct, xDct1, sRetK, atK, keyD, sAugI,
  kit_int, kit_bool, kit_tuple, kit_str, List.map_cons, List.map_nil, List.cons_append, List.nil_append, List.replicate, List.set_cons_zero, List.set_cons_succ, List.getElem?_cons_zero, List.getElem?_cons_succ, List.length_cons, List.length_nil, List.length_map, Nat.reduceAdd, Nat.reduceSub, Bool.not_true, Bool.not_false, Bool.false_eq_true, if_true, if_false, true_and, reduceCtorEq, Bool.true_eq_false, rgD_rgI, Option.some.injEq, exists_eq_left', and_true])
theorem v__law_bent_dots : VM g__law_bent_dots S__law_bent_dots 2 9 := fun l ms ds Q _ h => by
  obtain ⟨C, n, rfl, hC, hn, hm, h⟩ := h
  have cl := hC.1
  unfold g__law_bent_dots
  refine ⟨l, ms, C, 9, hm, rfl, ?_⟩
  walk_at "dd"
  rw [dLen_tL, cl]
  refine roll_ok (n := n) hm (by decide) (by decide) fun w ms1 w0 w1 hm1 => ?_
  refine ⟨C.map tI, rfl, ?_⟩
  refine wpLc_mapL C tI (fun r => .list (r.map .int)) (by omega) rfl (fun r hr K hK => ?_) (fun _ => rfl) ?_
  · walk_at "dd"
    exact hK _ rfl
  rw [show C.map (fun r => PyData.list (r.map .int)) = (C.map fun r => r.map PyData.int).map PyData.list from by simp only [List.map_map, Function.comp_def]]
  have hF := ll_dots hC
  generalize (C.map fun r => r.map PyData.int) = F at hF
  refine ⟨by decide, ?_⟩
  walk_at "dd"
  have early : ∀ (ms : List D), Dc ms → ∃ ds, seqD (tL C) = some ds ∧ wpLc (gNm 9) dYes (dCall dTupOf (aCons (dVar 9) aNil)) [9] (fun ds ρ1 => ∃ ms', ρ1[0]? = some (some (SV.ow (MO.par l (MO.lst ms')))) ∧ Q (PyData.tuple ds) ms') ds []
      [some (SV.ow (MO.par l (MO.lst ms))), some (SV.im (tL C)), some (SV.im (PyData.int n)), some (SV.im (PyData.int w)), some (SV.im (PyData.list (List.map PyData.list F))), none, none, none, none, none, none] := fun ms hm => by
    refine ⟨C.map tI, rfl, ?_⟩
    refine wpLc_mapL C tI tI (by omega) rfl (fun r hr K hK => ?_) (fun _ => rfl) ⟨ms, rfl, h C ms hC hm⟩
    walk_at "dd"
    exact hK _ rfl
  refine ⟨rfl, rfl, ?_⟩
  rw [eqv_int]
  refine ite_ways (fun e => early ms1 hm1) (fun e => ?_)
  have n1 : 1 ≤ n := by
    have : ¬ (n : Int) = 0 := by simpa using e
    omega
  refine ⟨rfl, rfl, ?_⟩
  refine ite_ways (fun e => early ms1 hm1) (fun e => ?_)
  refine ⟨rfl, fun z => by rw [z] at cl; simp at cl; omega, fun i d z e => ?_, fr_mk hm1 ⟨.nl (.int _), .nl (.int _), ll_pl hF, trivial⟩, ?_⟩
  · match i, z, e with
    | 0, _, e => simp at e
    | 1, z, _ => exact absurd rfl z
    | i + 2, _, e => exact alla_at (l := [some (SV.im (PyData.int n)), some (SV.im (PyData.int w)), some (SV.im (tLL F)), none, none, none, none, none, none]) ⟨.nl (.int _), .nl (.int _), na_ll n1 hF, trivial⟩ i d (by simpa [tLL] using e)
  intro p3 hp3
  obtain ⟨rfl, _⟩ := fr_p hp3
  walk_at "dd"
  refine ⟨⟨by decide, by decide, by decide, by decide⟩, ?_⟩
  refine wpLc_all (fun d => ∃ i : Int, d = .int i ∧ 0 ≤ i ∧ i < n) (fun ρ => ∃ ms, ρ = [some (.ow (.par p3 (.lst ms))), none, some (.im (.int n)), some (.im (.int w)), some (.im (tLL F)), none, none, none, none, none, none] ∧ Dc ms) ⟨_, rfl, hm1⟩ (by decide) (fun d hd ρ K hI k => ?_) (fun _ => rfl) (fun acc ρ al ag hI => ?_)
  · obtain ⟨ms, rfl, hm⟩ := hI
    walk_at "dd"
    exact roll_ok (n := n) hm (by omega) (by omega) fun r ms1 r0 r1 hm1 => k _ _ ⟨r, rfl, r0, r1⟩ ⟨_, rfl, hm1⟩
  obtain ⟨ms2, rfl, hm2⟩ := hI
  obtain ⟨A, rfl, hA⟩ := all_map (f := PyData.int) (R := fun i => 0 ≤ i ∧ i < (n : Int)) (acc := acc) fun y hy => by obtain ⟨i, e, hi⟩ := ag y hy; exact ⟨i, e, hi⟩
  have e3 : (rgD 0 3).length = 3 := by decide
  rw [e3, List.length_map] at al
  obtain ⟨x, y, z, rfl⟩ : ∃ x y z, A = [x, y, z] := by
    match A, al with
    | [x, y, z], _ => exact ⟨x, y, z, rfl⟩
  have hx := hA x (by simp)
  have hy := hA y (by simp)
  have hz := hA z (by simp)
  clear hA ag al
  simp only [List.map_cons, List.map_nil]
  walk_at "dd"
  refine ⟨fr_mk hm2 ⟨.nl (.int _), .nl (.int _), ll_pl hF, .nl (.int _), .nl (.int _), .nl (.int _), trivial⟩, ?_⟩
  intro p4 hp4
  obtain ⟨rfl, _⟩ := fr_p hp4
  walk_at "dd"
  refine lli_ix hF hx fun line hline => ?_
  refine ⟨fr_mk hm2 (en2_all (.int w) hF hline), ?_⟩
  have fin : ∀ (F : List (List D)) (line : List D) (ms : List D), Dc ms → LLs (PI n) n F → Ls (PI n) n line → (sB (sRet (dCall dTupOf (aCons (dOfL (lLc (iSq (dVar 4)) (gNm 9) (dYes) (dCall dTupOf (aCons (dVar 9) (aNil))) [9])) (aNil)))))
      { nx := fun ρ => ∃ ms', ρ[0]? = some (some (SV.ow (MO.par p4 (MO.lst ms')))) ∧ Q PyData.none ms', rt := fun d ρ => ∃ ms', ρ[0]? = some (some (SV.ow (MO.par p4 (MO.lst ms')))) ∧ Q d ms' } (en2 p4 ms n (.int w) F x y z line) := by
    intro F line ms hm hF hl
    intro p5 hp5
    obtain ⟨rfl, _⟩ := fr_p hp5
    obtain ⟨C', hC', rfl⟩ := dots_ll hF
    have cl' := hC'.1
    walk_at "dd"
    refine ⟨(C'.map fun r => r.map PyData.int).map PyData.list, rfl, ?_⟩
    rw [show (C'.map fun r => r.map PyData.int).map PyData.list = C'.map (fun r => PyData.list (r.map .int)) from by simp only [List.map_map, Function.comp_def]]
    refine wpLc_mapL C' (fun r => .list (r.map .int)) tI (by omega) rfl (fun r hr K hK => ?_) (fun _ => rfl) ?_
    · walk_at "dd"
      exact hK _ rfl
    · exact ⟨fr_mk hm (en2_all (.int w) (ll_dots hC') hl), ms, rfl, h C' ms hC' hm⟩
  intro p5 hp5
  obtain ⟨rfl, _⟩ := fr_p hp5
  walk_at "dd"
  refine ⟨rfl, rfl, fr_mk hm2 (en2_all (.int w) hF hline), ?_⟩
  rw [eqv_int]
  refine ite_ways (fun e1 => ?_) (fun e1 => ?_)
  · intro p6 hp6
    obtain ⟨rfl, _⟩ := fr_p hp6
    refine ⟨fr_mk hm2 (en2_all (.int w) hF hline), ?_⟩
    exact st2 (j := 6) hm2 n1 (.int w) hF hline rfl hy hz fun F line h1 h2 => fin F line ms2 hm2 h1 h2
  intro p6 hp6
  obtain ⟨rfl, _⟩ := fr_p hp6
  walk_at "dd"
  refine ⟨rfl, rfl, fr_mk hm2 (en2_all (.int w) hF hline), ?_⟩
  rw [eqv_int]
  refine ite_ways (fun e2 => ?_) (fun e2 => ?_)
  · intro p8 hp8
    obtain ⟨rfl, _⟩ := fr_p hp8
    walk_at "dd"
    refine lsi_ix hline hz fun q1 a0 a1 => lsi_ix hline hy fun q2 b0 b1 => ?_
    refine ⟨by decide, fr_mk hm2 (en2_all (.int w) hF hline), ?_⟩
    refine ⟨[.int q1, .int q2], rfl, rfl, fun d hd => ?_, ?_⟩
    · simp only [List.mem_cons, List.not_mem_nil, or_false] at hd
      rcases hd with rfl | rfl <;> exact .int _
    refine st2 (j := 6) hm2 n1 (.int w) hF hline rfl hy ⟨a0, a1⟩ fun F1 line1 h1 h2 => ?_
    refine st2 (j := 7) hm2 n1 (.int w) h1 h2 rfl hz ⟨b0, b1⟩ fun F2 line2 k1 k2 => ?_
    exact ⟨rfl, fin F2 line2 ms2 hm2 k1 k2⟩
  intro p8 hp8
  obtain ⟨rfl, _⟩ := fr_p hp8
  walk_at "dd"
  refine lli_ix hF hy fun r1 hr1 => lli_ix hF hx fun r2 hr2 => ?_
  refine ⟨by decide, fr_mk hm2 (en2_all (.int w) hF hline), ?_⟩
  refine ⟨[.list r1, .list r2], rfl, rfl, fun d hd => ?_, ?_⟩
  · simp only [List.mem_cons, List.not_mem_nil, or_false] at hd
    rcases hd with rfl | rfl
    · exact l1_ls hr1
    · exact l1_ls hr2
  refine st2o (j := 5) hm2 n1 (.int w) hF hline rfl hx hr1 fun F1 h1 => ?_
  refine st2o (j := 6) hm2 n1 (.int w) h1 hline rfl hy hr2 fun F2 k1 => ?_
  exact ⟨rfl, fin F2 line ms2 hm2 k1 hline⟩
end Dn
set_option Elab.async false
set_option linter.all false
set_option maxRecDepth 100000
set_option autoImplicit false
set_option maxHeartbeats 4000000
namespace Dn
open PySem L2 Evl PySem.Spec PyProof.Rows
local macro_rules | `(tactic| walk_at "dd") => `(tactic| simp only [sSeq, sIf, sSet, sRet, sRetN, sNx, sEx, sAsg, sPar, dTOr, dTAnd, dTNot, dTst, dIsi, dVar, dC, dBin, dChain, dNeg, dI2, dAnd, dOr, dNot, dIfE, dCall, dCallF, aCons, aNil, dTup, lLst, dOfL, xIm, xOw, gNm, gTp, gsCons, gsNil, dYes, envD, dLen_tR, dLen_tI, dLen_tup, dLen_lst, seq_tR, seq_tI, seq_tup, seq_lst, dIs, dIsNot, dNe, dEq, dTupOf, dSl, oNone, oSome, iSq, iEn, iR1, iR2, sFor, lLc, sNever, dTRg, rg1, rg2, lRg, wipeD, isN, optD,
  gTpL, dIxP, sSub, dApp, dPopAt, dExt, dCallM, dCallO, dBinO, dTupO, lOf, lOfO, sRetO, iOw, dVarF, lCat, lCall, dAbs, dMax2, dMin2, dInt, atO, setO, MO.getL, MO.putL, Option.isSome_some,
  dInK, dGetK, dGetD, dInD, dGet1, lKeys, lSort, dLenSet, dRevT, sPutK, xDct, xDct1, sRetK, atK, keyD, sAugI,
  kit_int, kit_bool, kit_tuple, kit_str, List.map_cons, List.map_nil, List.cons_append, List.nil_append, List.replicate, List.set_cons_zero, List.set_cons_succ, List.getElem?_cons_zero, List.getElem?_cons_succ, List.length_cons, List.length_nil, List.length_map, Nat.reduceAdd, Nat.reduceSub, Bool.not_true, Bool.not_false, Bool.false_eq_true, if_true, if_false, true_and, reduceCtorEq, Bool.true_eq_false, rgD_rgI, Option.some.injEq, exists_eq_left', and_true])
theorem dLen_scr' {s : List Int} {Q : D → Prop} : dLen [scr s] Q = Q (.int s.length) := by show Q _ = _; simp
theorem rg_three (n : Int) : RgD 0 (if (if n < 3 then n else 3) > 1 then (if n < 3 then n else 3) else 1) := by
  unfold RgD
  split <;> (try split) <;> omega
theorem same_b (b : Bool) {P1 P2 : Prop} (h : P2) : SeqAt.shaped (.bool b) = true ∧ SeqAt.shaped (.bool b) = true ∧ if (!PyData.eqv (.bool b) (.bool b)) = true then P1 else P2 := by
  refine ⟨rfl, rfl, ?_⟩
  rw [if_neg (by cases b <;> decide)]
  exact h
theorem v_law : VD g_law S_law 1 6 := fun ds Q _ h => by
  obtain ⟨s, rfl, hs, h⟩ := h
  unfold g_law
  walk_at "dd"
  rw [dLen_scr']
  dsimp only
  refine And.intro (rg_three _) ?_
  refine wpFor_inv (fun ρ => ∃ x1 x2 x3 x4 x5 x6, ρ = [some (.im (scr s)), x1, x2, x3, x4, x5, x6]) ⟨_, _, _, _, _, _, rfl⟩ (fun d hd ρ K i k => ?_) (fun ρ i => ?_)
  · obtain ⟨x1, x2, x3, x4, x5, x6, rfl⟩ := i
    obtain ⟨spot, rfl, s0, _⟩ := mem_rgD' hd
    walk_at "dd"
    refine ⟨s, spot, rfl, s0, fun ms hm => ?_⟩
    walk_at "dd"
    refine ⟨0, 5, rfl, by decide, by decide, by decide, hm, fun R n ms2 hR hn hm2 => ?_⟩
    try walk_at "dd"
    refine ⟨R, n, rfl, hR, by omega, hm2, fun R1 ms3 hR1 hm3 => ?_⟩
    try walk_at "dd"
    refine ⟨3, rfl, by decide, hm3, fun R2 n2 ms4 hR2 hn2 hm4 => ?_⟩
    try walk_at "dd"
    refine ⟨by decide, ?_⟩
    refine wpFor_inv (fun ρ => ∃ ms x3 x4 x5 x6, ρ = [some (.im (scr s)), some (.im (.int spot)), some (.ow (.lst ms)), x3, x4, x5, x6] ∧ Dc ms) ⟨_, _, _, _, _, rfl, hm4⟩ (fun d hd ρ K2 i k2 => ?_) (fun ρ i => ?_)
    · obtain ⟨ms, x3, x4, x5, x6, rfl, hm⟩ := i
      obtain ⟨R, n, rfl, hR, hn⟩ : ∃ R n, d = tRP R ∧ Pw n R ∧ n ≤ 8 := by
        simp only [List.mem_cons, List.not_mem_nil, or_false] at hd
        rcases hd with rfl | rfl
        · exact ⟨R1, n, rfl, hR1, by omega⟩
        · exact ⟨R2, n2, rfl, hR2, by omega⟩
      have rl := hR.1
      walk_at "dd"
      rw [dLen_tRP, rl]
      refine ⟨by decide, R, n, rfl, hR, hn, fun p hp _ => ?_⟩
      refine ⟨n, W3, "fair", p, rfl, hn, .inl rfl, .inl rfl, hp, hm, fun vs ms1 hv vl hm1 => ?_⟩
      refine ⟨vs, rfl, ?_⟩
      refine wpFor_inv (fun ρ => ∃ x4 x5 x6, ρ = [some (.im (scr s)), some (.im (.int spot)), some (.ow (.lst ms1)), some (.im (tRP R)), x4, x5, x6]) ⟨_, _, _, rfl⟩ (fun v hvm ρ K3 i k3 => ?_) (fun ρ i => ?_)
      · obtain ⟨x4, x5, x6, rfl⟩ := i
        walk_at "dd"
        refine ⟨R, n, v, rfl, hR, hn, hv v hvm, ?_⟩
        try walk_at "dd"
        refine ⟨R, n, v, rfl, hR, hn, hv v hvm, same_b _ ?_⟩
        exact k3 _ ⟨_, _, _, rfl⟩
      · obtain ⟨x4, x5, x6, rfl⟩ := i
        exact k2 _ ⟨ms1, _, _, _, _, rfl, hm1⟩
    · obtain ⟨ms, x3, x4, x5, x6, rfl, hm⟩ := i
      walk_at "dd"
      refine ⟨0, 5, rfl, by decide, by decide, by decide, hm, fun C n ms1 hC n1 n5 hm1 => ?_⟩
      try walk_at "dd"
      refine ⟨C, n, rfl, hC, by omega, hm1, fun C' ms2 hC' hm2 => ?_⟩
      have cl := hC'.1
      try walk_at "dd"
      rw [cl]
      refine ⟨by decide, C', n, rfl, hC', n5, fun p hp _ => ?_⟩
      refine ⟨n, W2, "dots", p, rfl, by omega, .inr rfl, .inr rfl, hp, hm2, fun vs ms3 hv vl hm3 => ?_⟩
      refine ⟨vs, rfl, ?_⟩
      refine wpFor_inv (fun ρ => ∃ x4 x5, ρ = [some (.im (scr s)), some (.im (.int spot)), some (.ow (.lst ms3)), x3, x4, x5, some (.im (tR C'))]) ⟨_, _, rfl⟩ (fun v hvm ρ K3 i k3 => ?_) (fun ρ i => ?_)
      · obtain ⟨x4, x5, rfl⟩ := i
        walk_at "dd"
        refine ⟨C', n, v, rfl, hC', n5, hv v hvm, ?_⟩
        try walk_at "dd"
        refine ⟨C', n, v, rfl, hC', n5, hv v hvm, same_b _ ?_⟩
        exact k3 _ ⟨_, _, rfl⟩
      · obtain ⟨x4, x5, rfl⟩ := i
        exact k _ ⟨_, _, _, _, _, _, rfl⟩
  · obtain ⟨x1, x2, x3, x4, x5, x6, rfl⟩ := i
    try walk_at "dd"
    exact h
end Dn
set_option Elab.async false
set_option linter.all false
set_option maxRecDepth 100000
set_option autoImplicit false
set_option maxHeartbeats 4000000
namespace Dn.K69
open PySem L2 Evl PySem.Spec PyProof.Rows
local macro_rules | `(tactic| walk_at "dd") => `(tactic| simp only [sSeq, sIf, sSet, sRet, sRetN, sNx, sEx, sAsg, sPar, dTOr, dTAnd, dTNot, dTst, dIsi, dVar, dC, dBin, dChain, dNeg, dI2, dAnd, dOr, dNot, dIfE, dCall, dCallF, aCons, aNil, dTup, lLst, dOfL, xIm, xOw, gNm, gTp, gsCons, gsNil, dYes, envD, dLen_tR, dLen_tI, dLen_tup, dLen_lst, seq_tR, seq_tI, seq_tup, seq_lst, dIs, dIsNot, dNe, dEq, dTupOf, dSl, oNone, oSome, iSq, iEn, iR1, iR2, sFor, lLc, sNever, dTRg, rg1, rg2, lRg, wipeD, isN, optD,
  gTpL, dIxP, sSub, dApp, dPopAt, dExt, dCallM, dCallO, dBinO, dTupO, lOf, lOfO, sRetO, iOw, dVarF, lCat, lCall, dAbs, dMax2, dMin2, dInt, atO, setO, MO.getL, MO.putL, Option.isSome_some,
  dInK, dGetK, dGetD, dInD, dGet1, lKeys, lSort, dLenSet, dLenSetL, dLenSet2, sPar3, dRevT, sPutK, xDct, xDct1, sRetK, atK, keyD, sAugI,
  kit_int, kit_bool, kit_tuple, kit_str, List.map_cons, List.map_nil, List.cons_append, List.nil_append, List.replicate, List.set_cons_zero, List.set_cons_succ, List.getElem?_cons_zero, List.getElem?_cons_succ, List.length_cons, List.length_nil, List.length_map, Nat.reduceAdd, Nat.reduceSub, Bool.not_true, Bool.not_false, Bool.false_eq_true, if_true, if_false, true_and, reduceCtorEq, Bool.true_eq_false, rgD_rgI, Option.some.injEq, exists_eq_left', and_true])
theorem rg_four (n : Int) : RgD 0 (if (if n < 4 then n else 4) > 1 then (if n < 4 then n else 4) else 1) := by
  unfold RgD
  split <;> (try split) <;> omega
theorem dw2 {a b c d : Int} (h : (0 ≤ a ∧ a < 2) ∧ (0 ≤ b ∧ b < 2) ∧ (0 ≤ c ∧ c < 2) ∧ (0 ≤ d ∧ d < 2)) : Dw 2 [[a, b], [c, d]] := by
  refine ⟨rfl, fun r hr => ?_⟩
  simp only [List.mem_cons, List.not_mem_nil, or_false] at hr
  rcases hr with rfl | rfl
  all_goals
    refine ⟨rfl, fun x hx => ?_⟩
    simp only [List.mem_cons, List.not_mem_nil, or_false] at hx
    rcases hx with rfl | rfl <;> omega
theorem pa1 : papOf [[0, 1], [1, 0]] 2 = .tuple [.str "three", .int 1, .int 0, .int 0] := by rfl
theorem pa2 : papOf [[0, 0], [0, 1]] 2 = .tuple [.str "row", .int 0, .int 0, .int 1] := by rfl
theorem pa3 : papOf [] 0 = .tuple [.str "shadow"] := by rfl
theorem ju0 : judge (brs []) W2 "shadow" 0 (.tuple [.str "shadow"]) = true := by decide +kernel
theorem pap_self {n : Nat} {p : D} (h : IsPap W2 "shadow" n p) : PyData.eqv p p = true := by
  rcases h with rfl | ⟨s, x, y, z, hs, _, rfl⟩
  · decide +kernel
  · simp [PyData.eqv, PyData.eqvAll]
theorem v_law : VD g_law S_law 1 6 := fun ds Q _ h => by
  obtain ⟨s, rfl, hs, h⟩ := h
  unfold g_law
  walk_at "dd"
  rw [dLen_scr']
  dsimp only
  refine And.intro (rg_four _) ?_
  refine wpFor_inv (fun ρ => ∃ x1 x2 x3 x4 x5 x6, ρ = [some (.im (scr s)), x1, x2, x3, x4, x5, x6]) ⟨_, _, _, _, _, _, rfl⟩ (fun d hd ρ K i k => ?_) (fun ρ i => ?_)
  · obtain ⟨x1, x2, x3, x4, x5, x6, rfl⟩ := i
    obtain ⟨spot, rfl, s0, _⟩ := mem_rgD' hd
    walk_at "dd"
    refine ⟨s, spot, rfl, s0, fun ms hm => ?_⟩
    walk_at "dd"
    refine ⟨⟨by decide, by decide, by decide, by decide⟩, ?_⟩
    refine wpFor_inv (fun ρ => ∃ ms x3 x4 x5 x6, ρ = [some (.im (scr s)), some (.im (.int spot)), some (.ow (.lst ms)), x3, x4, x5, x6] ∧ Dc ms) ⟨_, _, _, _, _, rfl, hm⟩ (fun d hd ρ K2 i k2 => ?_) (fun ρ i => ?_)
    · obtain ⟨ms, x3, x4, x5, x6, rfl, hm⟩ := i
      walk_at "dd"
      refine ⟨rfl, hm, fun C n ms1 hC n1 n5 hm1 => ?_⟩
      try walk_at "dd"
      refine ⟨C, n, rfl, hC, n5, ?_⟩
      try walk_at "dd"
      refine ⟨C, n, rfl, hC, n5, ?_⟩
      show SeqAt.shaped (papOf C n) = true ∧ SeqAt.shaped (papOf C n) = true ∧ _
      have sp : SeqAt.shaped (papOf C n) = true := pap_shaped (by decide +kernel) (by decide +kernel) papOf_pap
      refine ⟨sp, sp, ?_⟩
      rw [pap_self papOf_pap]
      rw [if_neg (by decide)]
      refine ⟨C, n, papOf C n, rfl, hC, n1, n5, papOf_pap, hm1, fun vs ms2 hv vl hm2 => ?_⟩
      refine ⟨vs, rfl, ?_⟩
      refine wpFor_inv (fun ρ => ∃ x4 x5 x6, ρ = [some (.im (scr s)), some (.im (.int spot)), some (.ow (.lst ms2)), x4, some (.im (tR C)), x5, x6]) ⟨_, _, _, rfl⟩ (fun v hvm ρ K3 i k3 => ?_) (fun ρ i => ?_)
      · obtain ⟨x4, x5, x6, rfl⟩ := i
        walk_at "dd"
        refine ⟨C, n, v, rfl, hC, n5, hv v hvm, ?_⟩
        try walk_at "dd"
        refine ⟨C, n, v, rfl, hC, n5, hv v hvm, same_b _ ?_⟩
        exact k3 _ ⟨_, _, _, rfl⟩
      · obtain ⟨x4, x5, x6, rfl⟩ := i
        exact k2 _ ⟨ms2, _, _, _, _, rfl, hm2⟩
    · obtain ⟨ms, x3, x4, x5, x6, rfl, hm⟩ := i
      exact k _ ⟨_, _, _, _, _, _, rfl⟩
  · obtain ⟨x1, x2, x3, x4, x5, x6, rfl⟩ := i
    try walk_at "dd"
    refine ⟨by decide, by decide, by decide, [[0, 1], [1, 0]], 2, rfl, dw2 (by decide), by decide, ?_⟩
    refine ⟨by decide, by decide, by decide, [[0, 0], [0, 1]], 2, rfl, dw2 (by decide), by decide, ?_⟩
    refine ⟨by decide, [], 0, rfl, ⟨rfl, by simp⟩, by decide, ?_⟩
    refine ⟨by decide, by decide, [], 0, _, rfl, ⟨rfl, by simp⟩, by decide, okV_tup (by simp) (fun d hd => by rw [List.mem_singleton.mp hd]; exact fl_str (by decide +kernel)), ?_⟩
    rw [ju0, pa1, pa2, pa3]
    refine ⟨by decide, by decide, by decide, by decide, by decide, by decide +kernel, by decide +kernel, ?_⟩
    refine Eq.mp (congrArg (fun b => Q (.bool b)) ?_) h
    decide +kernel
end Dn.K69
set_option Elab.async false
set_option linter.all false
set_option maxRecDepth 100000
set_option autoImplicit false
set_option maxHeartbeats 2000000
namespace He
open PySem PySem.Spec PyProof.Rows L2
/-- names that stand for a builtin of another name-/
def bfB (K : PySem.W.Frag) (q : Str × String) : Bool := match PySem.W.nsIn K mainGlobals q.1 with
  | some (some (.builtin n)) => decide (n = q.2)
  | _ => false
def obsB (bf : List (Str × String)) (fa : List Fa) (fn : List DefD) (K : PySem.W.Frag) : AlD := (bf.all (bfB K) && (obsD fa fn K).1, (obsD fa fn K).2)
def SaysB (bf : List (Str × String)) (fa : List Fa) (fn : List DefD) (K : PySem.W.Frag) : Prop := obsB bf fa fn K = valD fn
def obsBG (n : Nat) (bf : List (Str × String)) (fa : List Fa) (fn : List DefD) (g : Addr → Option Obj) : AlD := obsB bf fa fn (frG g (asD g n))
def hookB (n : Nat) (bf : List (Str × String)) (fa : List Fa) (fn : List DefD) : PySem.W.Hook where
  α := AlD
  obs := fun s => obsBG n bf fa fn s.heap.get?
  val := fun _ => valD fn
  says := fun _ h => ∃ K : PySem.W.Frag, K.In h ∧ SaysB bf fa fn K
  of := fun _ _ e => ⟨_, frG_in, e⟩
  keeps := fun _ _ _ ⟨K, hK, c⟩ k => ⟨K, PySem.W.Frag.In.keeps hK k, c⟩
theorem obsBG_eq {n : Nat} {bf : List (Str × String)} {fa : List Fa} {fn : List DefD} {g : Addr → Option Obj} {s : Shared} (h : ∀ a, g a = s.heap.get? a) : obsBG n bf fa fn g = (hookB n bf fa fn).obs s := by
  have e : g = s.heap.get? := funext h
  rw [e] <;> rfl
theorem SaysB.d {bf : List (Str × String)} {fa : List Fa} {fn : List DefD} {K : PySem.W.Frag} (c : SaysB bf fa fn K) : SaysD fa fn K := by
  have h1 := (ba (show (bf.all (bfB K) && (obsD fa fn K).1) = true from congrArg (fun z : AlD => z.1) c)).2
  have h0 : (obsB bf fa fn K).2 = (valD fn).2 := by
    rw [show obsB bf fa fn K = valD fn from c]
  have h2 : (obsD fa fn K).2 = (valD fn).2 := h0
  exact Prod.ext h1 h2
theorem SaysB.bf {bf : List (Str × String)} {fa : List Fa} {fn : List DefD} {K : PySem.W.Frag} (c : SaysB bf fa fn K) {h : Heap} {mg : Str → Option Value} (X : K.In h) (G : h.Ns mainGlobals mg) (i : Nat) {q : Str × String} (hi : bf[i]? = some q := by rfl) : mg q.1 = some (.builtin q.2) := by
  have h1 := (ba (show (bf.all (bfB K) && (obsD fa fn K).1) = true from congrArg (fun z : AlD => z.1) c)).1
  have h2 := List.all_eq_true.mp h1 q (List.mem_of_getElem? hi)
  unfold bfB at h2
  cases e : PySem.W.nsIn K mainGlobals q.1 with
  | none =>
    rw [e] at h2
    cases h2
  | some o =>
    rw [e] at h2
    cases o with
    | none => cases h2
    | some v =>
      cases v with
      | builtin n =>
        have e2 : n = q.2 := of_decide_eq_true h2
        subst e2
        exact PySem.W.mg_of X G e
      | _ => cases h2
end He
set_option Elab.async false
set_option linter.all false
set_option maxRecDepth 100000
set_option maxHeartbeats 0
namespace Hd
open PySem PySem.Spec PyProof.Rows L2
def top (i : Nat) : Stmt := PySem.Challenge.pw_truenames_k69_papers_on_shadows.main.body.getD i (.Pass ⟨0, 0, 0, 0⟩)
abbrev st_is_integer : Stmt := top 5
abbrev st_is_row : Stmt := top 6
abbrev st_is_square : Stmt := top 7
abbrev st_is_same : Stmt := top 8
abbrev st_is_told : Stmt := top 9
abbrev st_is_move : Stmt := top 12
abbrev st_is_move_of : Stmt := top 13
abbrev st_joined_moves : Stmt := top 14
abbrev st_shadow_paper : Stmt := top 17
abbrev st_is_shadow_paper : Stmt := top 18
abbrev st__check_rows : Stmt := top 19
abbrev st__is_shadow : Stmt := top 20
abbrev st__broken_paper : Stmt := top 21
abbrev st__breaks_shadow : Stmt := top 22
abbrev st__law_dice : Stmt := top 24
abbrev st__law_roll : Stmt := top 25
abbrev st__law_pick : Stmt := top 26
abbrev st__law_mixed : Stmt := top 27
abbrev st__law_orders : Stmt := top 28
abbrev st__law_joined : Stmt := top 29
abbrev st__law_undone : Stmt := top 30
abbrev st__law_drawn_move : Stmt := top 31
abbrev st__law_renamed_dots : Stmt := top 32
abbrev st__law_dots_likenesses : Stmt := top 33
abbrev st__law_keeps_dots : Stmt := top 34
abbrev st__law_union_dots : Stmt := top 35
abbrev st__law_places_of : Stmt := top 36
abbrev st__law_product_dots : Stmt := top 37
abbrev st__law_small_dots : Stmt := top 38
abbrev st__law_quiet_dots : Stmt := top 39
abbrev st__law_rows_of_dots : Stmt := top 40
abbrev st__law_left_of : Stmt := top 41
abbrev st__law_right_of : Stmt := top 42
abbrev st__law_renamed_rows : Stmt := top 43
abbrev st__law_fair_rows : Stmt := top 44
abbrev st__law_power : Stmt := top 45
abbrev st__law_shadow_rows : Stmt := top 46
abbrev st__law_is_shadow : Stmt := top 47
abbrev st__law_shows : Stmt := top 48
abbrev st__law_first_paper : Stmt := top 49
abbrev st__law_near_rows : Stmt := top 50
abbrev st__law_values : Stmt := top 51
abbrev st_law : Stmt := top 52
def dd_is_integer : He.DefD := ⟨("is_integer", none), "is_integer", "is_integer", defArgs st_is_integer, defBody st_is_integer, defScope st_is_integer, [], []⟩
def dd_is_row : He.DefD := ⟨("is_row", none), "is_row", "is_row", defArgs st_is_row, defBody st_is_row, defScope st_is_row, [], []⟩
def dd_is_square : He.DefD := ⟨("is_square", none), "is_square", "is_square", defArgs st_is_square, defBody st_is_square, defScope st_is_square, [], []⟩
def dd_is_same : He.DefD := ⟨("is_same", none), "is_same", "is_same", defArgs st_is_same, defBody st_is_same, defScope st_is_same, [], []⟩
def dd_is_told : He.DefD := ⟨("is_told", none), "is_told", "is_told", defArgs st_is_told, defBody st_is_told, defScope st_is_told, [], []⟩
def dd_is_move : He.DefD := ⟨("is_move", none), "is_move", "is_move", defArgs st_is_move, defBody st_is_move, defScope st_is_move, [], []⟩
def dd_is_move_of : He.DefD := ⟨("is_move_of", none), "is_move_of", "is_move_of", defArgs st_is_move_of, defBody st_is_move_of, defScope st_is_move_of, [], []⟩
def dd_joined_moves : He.DefD := ⟨("joined_moves", none), "joined_moves", "joined_moves", defArgs st_joined_moves, defBody st_joined_moves, defScope st_joined_moves, [], []⟩
def dd_shadow_paper : He.DefD := ⟨("shadow_paper", none), "shadow_paper", "shadow_paper", defArgs st_shadow_paper, defBody st_shadow_paper, defScope st_shadow_paper, [], []⟩
def dd_is_shadow_paper : He.DefD := ⟨("is_shadow_paper", none), "is_shadow_paper", "is_shadow_paper", defArgs st_is_shadow_paper, defBody st_is_shadow_paper, defScope st_is_shadow_paper, [], []⟩
def dd__check_rows : He.DefD := ⟨("_check_rows", none), "_check_rows", "_check_rows", defArgs st__check_rows, defBody st__check_rows, defScope st__check_rows, [], []⟩
def dd__is_shadow : He.DefD := ⟨("_is_shadow", none), "_is_shadow", "_is_shadow", defArgs st__is_shadow, defBody st__is_shadow, defScope st__is_shadow, [], []⟩
def dd__broken_paper : He.DefD := ⟨("_broken_paper", none), "_broken_paper", "_broken_paper", defArgs st__broken_paper, defBody st__broken_paper, defScope st__broken_paper, [], []⟩
def dd__breaks_shadow : He.DefD := ⟨("_breaks_shadow", none), "_breaks_shadow", "_breaks_shadow", defArgs st__breaks_shadow, defBody st__breaks_shadow, defScope st__breaks_shadow, [], []⟩
def dd__law_dice : He.DefD := ⟨("_law_dice", none), "_law_dice", "_law_dice", defArgs st__law_dice, defBody st__law_dice, defScope st__law_dice, [], []⟩
def dd__law_roll : He.DefD := ⟨("_law_roll", none), "_law_roll", "_law_roll", defArgs st__law_roll, defBody st__law_roll, defScope st__law_roll, [], []⟩
def dd__law_pick : He.DefD := ⟨("_law_pick", none), "_law_pick", "_law_pick", defArgs st__law_pick, defBody st__law_pick, defScope st__law_pick, [], []⟩
def dd__law_mixed : He.DefD := ⟨("_law_mixed", none), "_law_mixed", "_law_mixed", defArgs st__law_mixed, defBody st__law_mixed, defScope st__law_mixed, [], []⟩
def dd__law_orders : He.DefD := ⟨("_law_orders", none), "_law_orders", "_law_orders", defArgs st__law_orders, defBody st__law_orders, defScope st__law_orders, [], []⟩
def dd__law_joined : He.DefD := ⟨("_law_joined", none), "_law_joined", "_law_joined", defArgs st__law_joined, defBody st__law_joined, defScope st__law_joined, [], []⟩
def dd__law_undone : He.DefD := ⟨("_law_undone", none), "_law_undone", "_law_undone", defArgs st__law_undone, defBody st__law_undone, defScope st__law_undone, [], []⟩
def dd__law_drawn_move : He.DefD := ⟨("_law_drawn_move", none), "_law_drawn_move", "_law_drawn_move", defArgs st__law_drawn_move, defBody st__law_drawn_move, defScope st__law_drawn_move, [], []⟩
def dd__law_renamed_dots : He.DefD := ⟨("_law_renamed_dots", none), "_law_renamed_dots", "_law_renamed_dots", defArgs st__law_renamed_dots, defBody st__law_renamed_dots, defScope st__law_renamed_dots, [], []⟩
def dd__law_dots_likenesses : He.DefD := ⟨("_law_dots_likenesses", none), "_law_dots_likenesses", "_law_dots_likenesses", defArgs st__law_dots_likenesses, defBody st__law_dots_likenesses, defScope st__law_dots_likenesses, [], []⟩
def dd__law_keeps_dots : He.DefD := ⟨("_law_keeps_dots", none), "_law_keeps_dots", "_law_keeps_dots", defArgs st__law_keeps_dots, defBody st__law_keeps_dots, defScope st__law_keeps_dots, [], []⟩
def dd__law_union_dots : He.DefD := ⟨("_law_union_dots", none), "_law_union_dots", "_law_union_dots", defArgs st__law_union_dots, defBody st__law_union_dots, defScope st__law_union_dots, [], []⟩
def dd__law_places_of : He.DefD := ⟨("_law_places_of", none), "_law_places_of", "_law_places_of", defArgs st__law_places_of, defBody st__law_places_of, defScope st__law_places_of, [], []⟩
def dd__law_product_dots : He.DefD := ⟨("_law_product_dots", none), "_law_product_dots", "_law_product_dots", defArgs st__law_product_dots, defBody st__law_product_dots, defScope st__law_product_dots, [], []⟩
def dd__law_small_dots : He.DefD := ⟨("_law_small_dots", none), "_law_small_dots", "_law_small_dots", defArgs st__law_small_dots, defBody st__law_small_dots, defScope st__law_small_dots, [], []⟩
def dd__law_quiet_dots : He.DefD := ⟨("_law_quiet_dots", none), "_law_quiet_dots", "_law_quiet_dots", defArgs st__law_quiet_dots, defBody st__law_quiet_dots, defScope st__law_quiet_dots, [], []⟩
def dd__law_rows_of_dots : He.DefD := ⟨("_law_rows_of_dots", none), "_law_rows_of_dots", "_law_rows_of_dots", defArgs st__law_rows_of_dots, defBody st__law_rows_of_dots, defScope st__law_rows_of_dots, [], []⟩
def dd__law_left_of : He.DefD := ⟨("_law_left_of", none), "_law_left_of", "_law_left_of", defArgs st__law_left_of, defBody st__law_left_of, defScope st__law_left_of, [], []⟩
def dd__law_right_of : He.DefD := ⟨("_law_right_of", none), "_law_right_of", "_law_right_of", defArgs st__law_right_of, defBody st__law_right_of, defScope st__law_right_of, [], []⟩
def dd__law_renamed_rows : He.DefD := ⟨("_law_renamed_rows", none), "_law_renamed_rows", "_law_renamed_rows", defArgs st__law_renamed_rows, defBody st__law_renamed_rows, defScope st__law_renamed_rows, [], []⟩
def dd__law_fair_rows : He.DefD := ⟨("_law_fair_rows", none), "_law_fair_rows", "_law_fair_rows", defArgs st__law_fair_rows, defBody st__law_fair_rows, defScope st__law_fair_rows, [], []⟩
def dd__law_power : He.DefD := ⟨("_law_power", none), "_law_power", "_law_power", defArgs st__law_power, defBody st__law_power, defScope st__law_power, [], []⟩
def dd__law_shadow_rows : He.DefD := ⟨("_law_shadow_rows", none), "_law_shadow_rows", "_law_shadow_rows", defArgs st__law_shadow_rows, defBody st__law_shadow_rows, defScope st__law_shadow_rows, [], []⟩
def dd__law_is_shadow : He.DefD := ⟨("_law_is_shadow", none), "_law_is_shadow", "_law_is_shadow", defArgs st__law_is_shadow, defBody st__law_is_shadow, defScope st__law_is_shadow, [], []⟩
def dd__law_shows : He.DefD := ⟨("_law_shows", none), "_law_shows", "_law_shows", defArgs st__law_shows, defBody st__law_shows, defScope st__law_shows, [], []⟩
def dd__law_first_paper : He.DefD := ⟨("_law_first_paper", none), "_law_first_paper", "_law_first_paper", defArgs st__law_first_paper, defBody st__law_first_paper, defScope st__law_first_paper, [], []⟩
def dd__law_near_rows : He.DefD := ⟨("_law_near_rows", none), "_law_near_rows", "_law_near_rows", defArgs st__law_near_rows, defBody st__law_near_rows, defScope st__law_near_rows, [], []⟩
def dd__law_values : He.DefD := ⟨("_law_values", none), "_law_values", "_law_values", defArgs st__law_values, defBody st__law_values, defScope st__law_values, [], []⟩
def dd_law : He.DefD := ⟨("law", none), "law", "law", defArgs st_law, defBody st_law, defScope st_law, [], []⟩
def fn : List He.DefD := [dd_is_integer, dd_is_row, dd_is_square, dd_is_same, dd_is_told, dd_is_move, dd_is_move_of, dd_joined_moves, dd_shadow_paper, dd_is_shadow_paper, dd__check_rows, dd__is_shadow, dd__broken_paper, dd__breaks_shadow, dd__law_dice, dd__law_roll, dd__law_pick, dd__law_mixed, dd__law_orders, dd__law_joined, dd__law_undone, dd__law_drawn_move, dd__law_renamed_dots, dd__law_dots_likenesses, dd__law_keeps_dots, dd__law_union_dots, dd__law_places_of, dd__law_product_dots, dd__law_small_dots, dd__law_quiet_dots, dd__law_rows_of_dots, dd__law_left_of, dd__law_right_of, dd__law_renamed_rows, dd__law_fair_rows, dd__law_power, dd__law_shadow_rows, dd__law_is_shadow, dd__law_shows, dd__law_first_paper, dd__law_near_rows, dd__law_values, dd_law]
def fa : List He.Fa := [.glo "is_integer", .glo "is_row", .glo "is_square", .glo "is_same", .glo "is_told", .glo "is_move", .glo "is_move_of", .glo "joined_moves", .glo "shadow_paper", .glo "is_shadow_paper", .glo "_check_rows", .glo "_is_shadow", .glo "_broken_paper", .glo "_breaks_shadow", .glo "_law_dice", .glo "_law_roll", .glo "_law_pick", .glo "_law_mixed", .glo "_law_orders", .glo "_law_joined", .glo "_law_undone", .glo "_law_drawn_move", .glo "_law_renamed_dots", .glo "_law_dots_likenesses", .glo "_law_keeps_dots", .glo "_law_union_dots", .glo "_law_places_of", .glo "_law_product_dots", .glo "_law_small_dots", .glo "_law_quiet_dots", .glo "_law_rows_of_dots", .glo "_law_left_of", .glo "_law_right_of", .glo "_law_renamed_rows", .glo "_law_fair_rows", .glo "_law_power", .glo "_law_shadow_rows", .glo "_law_is_shadow", .glo "_law_shows", .glo "_law_first_paper", .glo "_law_near_rows", .glo "_law_values", .glo "law", .free "len", .free "range", .free "tuple", .free "list", .free "isinstance", .free "int", .free "bool", .free "str", .free "abs", .free "max", .free "min", .free "all", .free "any", .free "sum", .free "sorted", .free "enumerate", .free "repr", .free "set", .free "dict", .free "zip", .int "TOO_LONG" 1000000000000000000000000000000000000000000000000000000000000, .int "MAX_MOVED" 24, .int "MAX_LETTERS" 8]
def lo0 : List PySem.Str := ["NamesError", "InvalidTable", "TOO_LONG", "is_integer", "is_row", "is_square", "is_same", "is_told", "MAX_MOVED", "is_move", "is_move_of", "joined_moves", "MAX_LETTERS", "shadow_paper", "is_shadow_paper", "_check_rows", "_is_shadow", "_broken_paper", "_breaks_shadow", "_law_dice", "_law_roll", "_law_pick", "_law_mixed", "_law_orders", "_law_joined", "_law_undone", "_law_drawn_move", "_law_renamed_dots", "_law_dots_likenesses", "_law_keeps_dots"]
def lo1 : List PySem.Str := ["_law_union_dots", "_law_places_of", "_law_product_dots", "_law_small_dots", "_law_quiet_dots", "_law_rows_of_dots", "_law_left_of", "_law_right_of", "_law_renamed_rows", "_law_fair_rows", "_law_power", "_law_shadow_rows", "_law_is_shadow", "_law_shows", "_law_first_paper", "_law_near_rows", "_law_values"]
def loose : List PySem.Str := lo0 ++ lo1
abbrev R : PySem.W.OpenRow := PySem.W.OpenLaw.row PySem.Challenge.rw_truenames_k69_papers_on_shadows
def bf : List (PySem.Str × String) := []
abbrev hk : PySem.W.Hook := He.hookB 4 bf fa fn
def ob (s : PySem.W.SharedT) : He.AlD := He.obsBG 4 bf fa fn (HandSHeadRun.getT s)
theorem ob_eq (s : PySem.W.SharedT) : ob s = hk.obs s.abs := He.obsBG_eq (HandSHeadRun.getT_eq s)
theorem run (w : World) : HandSHeadRun.RunEq R (PySem.W.view R.prog [52]) hk ob 6000 loose w := by
  intro os
  kernel_rfl
end Hd
set_option Elab.async false
set_option linter.all false
set_option maxRecDepth 100000
set_option autoImplicit false
set_option maxHeartbeats 4000000
namespace Dn.K69
open PySem PySem.Spec PyProof.Rows L2 Evl
theorem start_law {K : PySem.W.Frag} {H : Hp} {a : Addr} {ns : List Int} (hl : ns.length ≤ 63) (hS : SqL K H a (ns.map V.int)) : spD K 1 S_law [.ref a] H (fun v _ => v = .bl true) fun _ _ _ => False := by
  refine ⟨rfl, fun _ => False, [scr ns], fun d => d = .bool true, fun _ h => h.elim, start_scr hS, ⟨ns, rfl, hl, rfl⟩, fun v d H' q _ r => ?_⟩
  subst q
  cases r
  rfl
theorem facts {P : Program} {w : World} {K : PySem.W.Frag} {h : Heap} {mg : Str → Option Value} {f : Addr} (X : K.In h) (G : h.Ns mainGlobals mg) (hfa : mg ("law" : Str) = some (.ref f)) (cb : He.SaysB Hd.bf Hd.fa Hd.fn K) :
    ∃ fd : FuncData, (∀ (s : Shared) (v : Value), BindsTo s fd ⟨[v], []⟩ [("_law_script", v)]) ∧ ∀ base : Heap, K.In base → base.Ns mainGlobals mg → FnOk P w K mg base L2.CX0 8 f fd ["_law_script"] (spD K 1 S_law) := by
  have c := cb.d
  have F_is_integer : Is K mg "is_integer" st_is_integer := by
    obtain ⟨fd, F⟩ := c.def_ 0 (d := Hd.dd_is_integer) rfl
    exact ⟨_, fd, F, He.glo_ok X G (c.fact 0 (f := .glo "is_integer") rfl)⟩
  have F_is_row : Is K mg "is_row" st_is_row := by
    obtain ⟨fd, F⟩ := c.def_ 1 (d := Hd.dd_is_row) rfl
    exact ⟨_, fd, F, He.glo_ok X G (c.fact 1 (f := .glo "is_row") rfl)⟩
  have F_is_square : Is K mg "is_square" st_is_square := by
    obtain ⟨fd, F⟩ := c.def_ 2 (d := Hd.dd_is_square) rfl
    exact ⟨_, fd, F, He.glo_ok X G (c.fact 2 (f := .glo "is_square") rfl)⟩
  have F_is_same : Is K mg "is_same" st_is_same := by
    obtain ⟨fd, F⟩ := c.def_ 3 (d := Hd.dd_is_same) rfl
    exact ⟨_, fd, F, He.glo_ok X G (c.fact 3 (f := .glo "is_same") rfl)⟩
  have F_is_told : Is K mg "is_told" st_is_told := by
    obtain ⟨fd, F⟩ := c.def_ 4 (d := Hd.dd_is_told) rfl
    exact ⟨_, fd, F, He.glo_ok X G (c.fact 4 (f := .glo "is_told") rfl)⟩
  have F_is_move : Is K mg "is_move" st_is_move := by
    obtain ⟨fd, F⟩ := c.def_ 5 (d := Hd.dd_is_move) rfl
    exact ⟨_, fd, F, He.glo_ok X G (c.fact 5 (f := .glo "is_move") rfl)⟩
  have F_is_move_of : Is K mg "is_move_of" st_is_move_of := by
    obtain ⟨fd, F⟩ := c.def_ 6 (d := Hd.dd_is_move_of) rfl
    exact ⟨_, fd, F, He.glo_ok X G (c.fact 6 (f := .glo "is_move_of") rfl)⟩
  have F_joined_moves : Is K mg "joined_moves" st_joined_moves := by
    obtain ⟨fd, F⟩ := c.def_ 7 (d := Hd.dd_joined_moves) rfl
    exact ⟨_, fd, F, He.glo_ok X G (c.fact 7 (f := .glo "joined_moves") rfl)⟩
  have F__check_rows : Is K mg "_check_rows" st__check_rows := by
    obtain ⟨fd, F⟩ := c.def_ 10 (d := Hd.dd__check_rows) rfl
    exact ⟨_, fd, F, He.glo_ok X G (c.fact 10 (f := .glo "_check_rows") rfl)⟩
  have F__is_shadow : Is K mg "_is_shadow" st__is_shadow := by
    obtain ⟨fd, F⟩ := c.def_ 11 (d := Hd.dd__is_shadow) rfl
    exact ⟨_, fd, F, He.glo_ok X G (c.fact 11 (f := .glo "_is_shadow") rfl)⟩
  have F__breaks_shadow : Is K mg "_breaks_shadow" st__breaks_shadow := by
    obtain ⟨fd, F⟩ := c.def_ 13 (d := Hd.dd__breaks_shadow) rfl
    exact ⟨_, fd, F, He.glo_ok X G (c.fact 13 (f := .glo "_breaks_shadow") rfl)⟩
  have F__law_dice : Is K mg "_law_dice" st__law_dice := by
    obtain ⟨fd, F⟩ := c.def_ 14 (d := Hd.dd__law_dice) rfl
    exact ⟨_, fd, F, He.glo_ok X G (c.fact 14 (f := .glo "_law_dice") rfl)⟩
  have F__law_roll : Is K mg "_law_roll" st__law_roll := by
    obtain ⟨fd, F⟩ := c.def_ 15 (d := Hd.dd__law_roll) rfl
    exact ⟨_, fd, F, He.glo_ok X G (c.fact 15 (f := .glo "_law_roll") rfl)⟩
  have F__law_pick : Is K mg "_law_pick" st__law_pick := by
    obtain ⟨fd, F⟩ := c.def_ 16 (d := Hd.dd__law_pick) rfl
    exact ⟨_, fd, F, He.glo_ok X G (c.fact 16 (f := .glo "_law_pick") rfl)⟩
  have F__law_mixed : Is K mg "_law_mixed" st__law_mixed := by
    obtain ⟨fd, F⟩ := c.def_ 17 (d := Hd.dd__law_mixed) rfl
    exact ⟨_, fd, F, He.glo_ok X G (c.fact 17 (f := .glo "_law_mixed") rfl)⟩
  have F__law_orders : Is K mg "_law_orders" st__law_orders := by
    obtain ⟨fd, F⟩ := c.def_ 18 (d := Hd.dd__law_orders) rfl
    exact ⟨_, fd, F, He.glo_ok X G (c.fact 18 (f := .glo "_law_orders") rfl)⟩
  have F__law_joined : Is K mg "_law_joined" st__law_joined := by
    obtain ⟨fd, F⟩ := c.def_ 19 (d := Hd.dd__law_joined) rfl
    exact ⟨_, fd, F, He.glo_ok X G (c.fact 19 (f := .glo "_law_joined") rfl)⟩
  have F__law_undone : Is K mg "_law_undone" st__law_undone := by
    obtain ⟨fd, F⟩ := c.def_ 20 (d := Hd.dd__law_undone) rfl
    exact ⟨_, fd, F, He.glo_ok X G (c.fact 20 (f := .glo "_law_undone") rfl)⟩
  have F__law_drawn_move : Is K mg "_law_drawn_move" st__law_drawn_move := by
    obtain ⟨fd, F⟩ := c.def_ 21 (d := Hd.dd__law_drawn_move) rfl
    exact ⟨_, fd, F, He.glo_ok X G (c.fact 21 (f := .glo "_law_drawn_move") rfl)⟩
  have F__law_renamed_dots : Is K mg "_law_renamed_dots" st__law_renamed_dots := by
    obtain ⟨fd, F⟩ := c.def_ 22 (d := Hd.dd__law_renamed_dots) rfl
    exact ⟨_, fd, F, He.glo_ok X G (c.fact 22 (f := .glo "_law_renamed_dots") rfl)⟩
  have F__law_keeps_dots : Is K mg "_law_keeps_dots" st__law_keeps_dots := by
    obtain ⟨fd, F⟩ := c.def_ 24 (d := Hd.dd__law_keeps_dots) rfl
    exact ⟨_, fd, F, He.glo_ok X G (c.fact 24 (f := .glo "_law_keeps_dots") rfl)⟩
  have F__law_union_dots : Is K mg "_law_union_dots" st__law_union_dots := by
    obtain ⟨fd, F⟩ := c.def_ 25 (d := Hd.dd__law_union_dots) rfl
    exact ⟨_, fd, F, He.glo_ok X G (c.fact 25 (f := .glo "_law_union_dots") rfl)⟩
  have F__law_places_of : Is K mg "_law_places_of" st__law_places_of := by
    obtain ⟨fd, F⟩ := c.def_ 26 (d := Hd.dd__law_places_of) rfl
    exact ⟨_, fd, F, He.glo_ok X G (c.fact 26 (f := .glo "_law_places_of") rfl)⟩
  have F__law_product_dots : Is K mg "_law_product_dots" st__law_product_dots := by
    obtain ⟨fd, F⟩ := c.def_ 27 (d := Hd.dd__law_product_dots) rfl
    exact ⟨_, fd, F, He.glo_ok X G (c.fact 27 (f := .glo "_law_product_dots") rfl)⟩
  have F__law_small_dots : Is K mg "_law_small_dots" st__law_small_dots := by
    obtain ⟨fd, F⟩ := c.def_ 28 (d := Hd.dd__law_small_dots) rfl
    exact ⟨_, fd, F, He.glo_ok X G (c.fact 28 (f := .glo "_law_small_dots") rfl)⟩
  have F__law_rows_of_dots : Is K mg "_law_rows_of_dots" st__law_rows_of_dots := by
    obtain ⟨fd, F⟩ := c.def_ 30 (d := Hd.dd__law_rows_of_dots) rfl
    exact ⟨_, fd, F, He.glo_ok X G (c.fact 30 (f := .glo "_law_rows_of_dots") rfl)⟩
  have F__law_left_of : Is K mg "_law_left_of" st__law_left_of := by
    obtain ⟨fd, F⟩ := c.def_ 31 (d := Hd.dd__law_left_of) rfl
    exact ⟨_, fd, F, He.glo_ok X G (c.fact 31 (f := .glo "_law_left_of") rfl)⟩
  have F__law_right_of : Is K mg "_law_right_of" st__law_right_of := by
    obtain ⟨fd, F⟩ := c.def_ 32 (d := Hd.dd__law_right_of) rfl
    exact ⟨_, fd, F, He.glo_ok X G (c.fact 32 (f := .glo "_law_right_of") rfl)⟩
  have F__law_renamed_rows : Is K mg "_law_renamed_rows" st__law_renamed_rows := by
    obtain ⟨fd, F⟩ := c.def_ 33 (d := Hd.dd__law_renamed_rows) rfl
    exact ⟨_, fd, F, He.glo_ok X G (c.fact 33 (f := .glo "_law_renamed_rows") rfl)⟩
  have F__law_power : Is K mg "_law_power" st__law_power := by
    obtain ⟨fd, F⟩ := c.def_ 35 (d := Hd.dd__law_power) rfl
    exact ⟨_, fd, F, He.glo_ok X G (c.fact 35 (f := .glo "_law_power") rfl)⟩
  have F__law_shadow_rows : Is K mg "_law_shadow_rows" st__law_shadow_rows := by
    obtain ⟨fd, F⟩ := c.def_ 36 (d := Hd.dd__law_shadow_rows) rfl
    exact ⟨_, fd, F, He.glo_ok X G (c.fact 36 (f := .glo "_law_shadow_rows") rfl)⟩
  have F__law_is_shadow : Is K mg "_law_is_shadow" st__law_is_shadow := by
    obtain ⟨fd, F⟩ := c.def_ 37 (d := Hd.dd__law_is_shadow) rfl
    exact ⟨_, fd, F, He.glo_ok X G (c.fact 37 (f := .glo "_law_is_shadow") rfl)⟩
  have F__law_shows : Is K mg "_law_shows" st__law_shows := by
    obtain ⟨fd, F⟩ := c.def_ 38 (d := Hd.dd__law_shows) rfl
    exact ⟨_, fd, F, He.glo_ok X G (c.fact 38 (f := .glo "_law_shows") rfl)⟩
  have F__law_first_paper : Is K mg "_law_first_paper" st__law_first_paper := by
    obtain ⟨fd, F⟩ := c.def_ 39 (d := Hd.dd__law_first_paper) rfl
    exact ⟨_, fd, F, He.glo_ok X G (c.fact 39 (f := .glo "_law_first_paper") rfl)⟩
  have F__law_values : Is K mg "_law_values" st__law_values := by
    obtain ⟨fd, F⟩ := c.def_ 41 (d := Hd.dd__law_values) rfl
    exact ⟨_, fd, F, He.glo_ok X G (c.fact 41 (f := .glo "_law_values") rfl)⟩
  have F_is_shadow_paper : Is K mg "is_shadow_paper" st_is_shadow_paper := by
    obtain ⟨fd, F⟩ := c.def_ 9 (d := Hd.dd_is_shadow_paper) rfl
    exact ⟨_, fd, F, He.glo_ok X G (c.fact 9 (f := .glo "is_shadow_paper") rfl)⟩
  have F__broken_paper : Is K mg "_broken_paper" st__broken_paper := by
    obtain ⟨fd, F⟩ := c.def_ 12 (d := Hd.dd__broken_paper) rfl
    exact ⟨_, fd, F, He.glo_ok X G (c.fact 12 (f := .glo "_broken_paper") rfl)⟩
  have F__law_dots_likenesses : Is K mg "_law_dots_likenesses" st__law_dots_likenesses := by
    obtain ⟨fd, F⟩ := c.def_ 23 (d := Hd.dd__law_dots_likenesses) rfl
    exact ⟨_, fd, F, He.glo_ok X G (c.fact 23 (f := .glo "_law_dots_likenesses") rfl)⟩
  have F__law_quiet_dots : Is K mg "_law_quiet_dots" st__law_quiet_dots := by
    obtain ⟨fd, F⟩ := c.def_ 29 (d := Hd.dd__law_quiet_dots) rfl
    exact ⟨_, fd, F, He.glo_ok X G (c.fact 29 (f := .glo "_law_quiet_dots") rfl)⟩
  have F__law_fair_rows : Is K mg "_law_fair_rows" st__law_fair_rows := by
    obtain ⟨fd, F⟩ := c.def_ 34 (d := Hd.dd__law_fair_rows) rfl
    exact ⟨_, fd, F, He.glo_ok X G (c.fact 34 (f := .glo "_law_fair_rows") rfl)⟩
  have F__law_near_rows : Is K mg "_law_near_rows" st__law_near_rows := by
    obtain ⟨fd, F⟩ := c.def_ 40 (d := Hd.dd__law_near_rows) rfl
    exact ⟨_, fd, F, He.glo_ok X G (c.fact 40 (f := .glo "_law_near_rows") rfl)⟩
  have F_shadow_paper : Is K mg "shadow_paper" st_shadow_paper := by
    obtain ⟨fd, F⟩ := c.def_ 8 (d := Hd.dd_shadow_paper) rfl
    exact ⟨_, fd, F, He.glo_ok X G (c.fact 8 (f := .glo "shadow_paper") rfl)⟩
  have B : Bl mg := ⟨He.free_ok X G (c.fact 43 (f := .free "len") rfl), He.free_ok X G (c.fact 44 (f := .free "range") rfl), He.free_ok X G (c.fact 45 (f := .free "tuple") rfl), He.free_ok X G (c.fact 46 (f := .free "list") rfl), He.free_ok X G (c.fact 47 (f := .free "isinstance") rfl), He.free_ok X G (c.fact 48 (f := .free "int") rfl), He.free_ok X G (c.fact 49 (f := .free "bool") rfl), He.free_ok X G (c.fact 50 (f := .free "str") rfl), He.free_ok X G (c.fact 51 (f := .free "abs") rfl), He.free_ok X G (c.fact 52 (f := .free "max") rfl), He.free_ok X G (c.fact 53 (f := .free "min") rfl), He.free_ok X G (c.fact 54 (f := .free "all") rfl), He.free_ok X G (c.fact 55 (f := .free "any") rfl), He.free_ok X G (c.fact 56 (f := .free "sum") rfl), He.free_ok X G (c.fact 57 (f := .free "sorted") rfl), He.free_ok X G (c.fact 58 (f := .free "enumerate") rfl), He.free_ok X G (c.fact 59 (f := .free "repr") rfl), He.free_ok X G (c.fact 60 (f := .free "set") rfl), He.free_ok X G (c.fact 61 (f := .free "dict") rfl), He.free_ok X G (c.fact 62 (f := .free "zip") rfl)⟩
  obtain ⟨t_TOO_LONG, c_TOO_LONG⟩ := He.int_ok X G (c.fact 63 (f := .int "TOO_LONG" 1000000000000000000000000000000000000000000000000000000000000) rfl)
  obtain ⟨t_MAX_MOVED, c_MAX_MOVED⟩ := He.int_ok X G (c.fact 64 (f := .int "MAX_MOVED" 24) rfl)
  obtain ⟨t_MAX_LETTERS, c_MAX_LETTERS⟩ := He.int_ok X G (c.fact 65 (f := .int "MAX_LETTERS" 8) rfl)
  obtain ⟨fd, F⟩ := c.def_ 42 (d := Hd.dd_law) rfl
  have e := hfa.symm.trans (He.glo_ok X G (c.fact 42 (f := .glo "law") rfl))
  cases e
  have b := FunD.bindsA (ps := ["_law_script"]) F fun _ _ _ _ _ _ us hl => match us, hl with | [_], _ => rfl
  refine ⟨fd, fun s v => b s [v] rfl, fun base _ _ => ?_⟩
  have O_is_integer : Ok P w K mg base "is_integer" P_is_integer 1 (spD K 1 S_is_integer) := ok_D F_is_integer sc_is_integer bs_is_integer (j_is_integer B c_TOO_LONG) v_is_integer
  have O_is_row : Ok P w K mg base "is_row" P_is_row 1 (spD K 3 S_is_row) := ok_D F_is_row sc_is_row bs_is_row (j_is_row B) v_is_row
  have O_is_square : Ok P w K mg base "is_square" P_is_square 2 (spD K 3 S_is_square) := ok_D F_is_square sc_is_square bs_is_square (j_is_square B O_is_row) v_is_square
  have O_is_same0 : Ok P w K mg base "is_same" P_is_same 2 (spD K 2 S_is_same0) := ok_D F_is_same sc_is_same bs_is_same (j_is_same0 B O_is_integer) v_is_same0
  have O_is_same : Ok P w K mg base "is_same" P_is_same 3 (spD K 2 S_is_same) := ok_D F_is_same sc_is_same bs_is_same (j_is_same B O_is_integer O_is_same0) v_is_same
  have O_is_told : Ok P w K mg base "is_told" P_is_told 4 (spD K 4 S_is_told) := ok_D F_is_told sc_is_told bs_is_told (j_is_told B O_is_same O_is_row) v_is_told
  have O_is_move : Ok P w K mg base "is_move" P_is_move 2 (spD K 1 S_is_move) := ok_D F_is_move sc_is_move bs_is_move (j_is_move B c_MAX_MOVED O_is_row) v_is_move
  have O_is_move_of : Ok P w K mg base "is_move_of" P_is_move_of 3 (spD K 2 S_is_move_of) := ok_D F_is_move_of sc_is_move_of bs_is_move_of (j_is_move_of B O_is_move) v_is_move_of
  have O_joined_moves : Ok P w K mg base "joined_moves" P_joined_moves 1 (spD K 2 S_joined_moves) := ok_D F_joined_moves sc_joined_moves bs_joined_moves (j_joined_moves B) v_joined_moves
  have O__check_rows : Ok P w K mg base "_check_rows" P__check_rows 3 (spD K 1 S__check_rows) := ok_D F__check_rows sc__check_rows bs__check_rows (j__check_rows c_MAX_LETTERS O_is_square) v__check_rows
  have O__is_shadow : Ok P w K mg base "_is_shadow" P__is_shadow 4 (spD K 1 S__is_shadow) := ok_D F__is_shadow sc__is_shadow bs__is_shadow (j__is_shadow B O_is_move_of O_joined_moves) v__is_shadow
  have O__breaks_shadow : Ok P w K mg base "_breaks_shadow" P__breaks_shadow 1 (spD K 3 S__breaks_shadow) := ok_D F__breaks_shadow sc__breaks_shadow bs__breaks_shadow (j__breaks_shadow) v__breaks_shadow
  have O__law_dice : Ok P w K mg base "_law_dice" P__law_dice 1 (spL K 2 S__law_dice) := ok_L F__law_dice sc__law_dice bs__law_dice (j__law_dice B) v__law_dice
  have O__law_roll : Ok P w K mg base "_law_roll" P__law_roll 1 (spM K 2 S__law_roll) := ok_M F__law_roll sc__law_roll bs__law_roll (j__law_roll B) v__law_roll
  have O__law_pick : Ok P w K mg base "_law_pick" P__law_pick 2 (spM K 2 S__law_pick) := ok_M F__law_pick sc__law_pick bs__law_pick (j__law_pick B O__law_roll) v__law_pick
  have O__law_mixed : Ok P w K mg base "_law_mixed" P__law_mixed 2 (spM K 2 S__law_mixed) := ok_M F__law_mixed sc__law_mixed bs__law_mixed (j__law_mixed B O__law_roll) v__law_mixed
  have O__law_orders : Ok P w K mg base "_law_orders" P__law_orders 1 (spD K 1 S__law_orders) := ok_D F__law_orders sc__law_orders bs__law_orders (j__law_orders B) v__law_orders
  have O__law_joined : Ok P w K mg base "_law_joined" P__law_joined 1 (spD K 2 S__law_joined) := ok_D F__law_joined sc__law_joined bs__law_joined (j__law_joined B) v__law_joined
  have O__law_undone : Ok P w K mg base "_law_undone" P__law_undone 1 (spD K 1 S__law_undone) := ok_D F__law_undone sc__law_undone bs__law_undone (j__law_undone B) v__law_undone
  have O__law_drawn_move : Ok P w K mg base "_law_drawn_move" P__law_drawn_move 3 (spM K 2 S__law_drawn_move) := ok_M F__law_drawn_move sc__law_drawn_move bs__law_drawn_move (j__law_drawn_move B O__law_mixed) v__law_drawn_move
  have O__law_renamed_dots : Ok P w K mg base "_law_renamed_dots" P__law_renamed_dots 2 (spD K 2 S__law_renamed_dots) := ok_D F__law_renamed_dots sc__law_renamed_dots bs__law_renamed_dots (j__law_renamed_dots B O__law_undone) v__law_renamed_dots
  have O__law_keeps_dots : Ok P w K mg base "_law_keeps_dots" P__law_keeps_dots 1 (spD K 2 S__law_keeps_dots) := ok_D F__law_keeps_dots sc__law_keeps_dots bs__law_keeps_dots (j__law_keeps_dots B) v__law_keeps_dots
  have O__law_union_dots : Ok P w K mg base "_law_union_dots" P__law_union_dots 1 (spD K 4 S__law_union_dots) := ok_D F__law_union_dots sc__law_union_dots bs__law_union_dots (j__law_union_dots B) v__law_union_dots
  have O__law_places_of : Ok P w K mg base "_law_places_of" P__law_places_of 1 (spD K 2 S__law_places_of) := ok_D F__law_places_of sc__law_places_of bs__law_places_of (j__law_places_of B) v__law_places_of
  have O__law_product_dots : Ok P w K mg base "_law_product_dots" P__law_product_dots 2 (spD K 2 S__law_product_dots) := ok_D F__law_product_dots sc__law_product_dots bs__law_product_dots (j__law_product_dots B O__law_places_of) v__law_product_dots
  have O__law_small_dots : Ok P w K mg base "_law_small_dots" P__law_small_dots 4 (spM K 2 S__law_small_dots) := ok_M F__law_small_dots sc__law_small_dots bs__law_small_dots (j__law_small_dots B O__law_roll O__law_pick O__law_drawn_move) v__law_small_dots
  have O__law_rows_of_dots : Ok P w K mg base "_law_rows_of_dots" P__law_rows_of_dots 2 (spD K 1 S__law_rows_of_dots) := ok_D F__law_rows_of_dots sc__law_rows_of_dots bs__law_rows_of_dots (j__law_rows_of_dots B O__law_undone) v__law_rows_of_dots
  have O__law_left_of : Ok P w K mg base "_law_left_of" P__law_left_of 1 (spD K 1 S__law_left_of) := ok_D F__law_left_of sc__law_left_of bs__law_left_of (j__law_left_of B) v__law_left_of
  have O__law_right_of : Ok P w K mg base "_law_right_of" P__law_right_of 1 (spD K 1 S__law_right_of) := ok_D F__law_right_of sc__law_right_of bs__law_right_of (j__law_right_of B) v__law_right_of
  have O__law_renamed_rows : Ok P w K mg base "_law_renamed_rows" P__law_renamed_rows 2 (spD K 2 S__law_renamed_rows) := ok_D F__law_renamed_rows sc__law_renamed_rows bs__law_renamed_rows (j__law_renamed_rows B O__law_undone) v__law_renamed_rows
  have O__law_power : Ok P w K mg base "_law_power" P__law_power 2 (spD K 2 S__law_power) := ok_D F__law_power sc__law_power bs__law_power (j__law_power B O__law_joined) v__law_power
  have O__law_shadow_rows : Ok P w K mg base "_law_shadow_rows" P__law_shadow_rows 2 (spD K 1 S__law_shadow_rows) := ok_D F__law_shadow_rows sc__law_shadow_rows bs__law_shadow_rows (j__law_shadow_rows B O__law_left_of O__law_right_of O__law_undone) v__law_shadow_rows
  have O__law_is_shadow : Ok P w K mg base "_law_is_shadow" P__law_is_shadow 1 (spD K 1 S__law_is_shadow) := ok_D F__law_is_shadow sc__law_is_shadow bs__law_is_shadow (j__law_is_shadow B) v__law_is_shadow
  have O__law_shows : Ok P w K mg base "_law_shows" P__law_shows 2 (spD K 2 S__law_shows) := ok_D F__law_shows sc__law_shows bs__law_shows (j__law_shows B O__law_is_shadow) v__law_shows
  have O__law_first_paper : Ok P w K mg base "_law_first_paper" P__law_first_paper 3 (spD K 1 S__law_first_paper) := ok_D F__law_first_paper sc__law_first_paper bs__law_first_paper (j__law_first_paper B O__law_shows) v__law_first_paper
  have O__law_values : Ok P w K mg base "_law_values" P__law_values 2 (spM K 3 S__law_values) := ok_M F__law_values sc__law_values bs__law_values (j__law_values B O__law_roll) v__law_values
  have O_is_shadow_paper : Ok P w K mg base "is_shadow_paper" P_is_shadow_paper 5 (spD K 2 S_is_shadow_paper) := ok_D F_is_shadow_paper sc_is_shadow_paper bs_is_shadow_paper (j_is_shadow_paper B O__check_rows O_is_told O__breaks_shadow O_is_same O__is_shadow) v_is_shadow_paper
  have O__broken_paper : Ok P w K mg base "_broken_paper" P__broken_paper 2 (spD K 1 S__broken_paper) := ok_D F__broken_paper sc__broken_paper bs__broken_paper (j__broken_paper B O__breaks_shadow) v__broken_paper
  have O__law_dots_likenesses : Ok P w K mg base "_law_dots_likenesses" P__law_dots_likenesses 2 (spD K 1 S__law_dots_likenesses) := ok_D F__law_dots_likenesses sc__law_dots_likenesses bs__law_dots_likenesses (j__law_dots_likenesses B O__law_orders O__law_keeps_dots) v__law_dots_likenesses
  have O__law_quiet_dots : Ok P w K mg base "_law_quiet_dots" P__law_quiet_dots 5 (spM K 3 S__law_quiet_dots) := ok_M F__law_quiet_dots sc__law_quiet_dots bs__law_quiet_dots (j__law_quiet_dots B O__law_small_dots O__law_roll O__law_product_dots O__law_pick O__law_dots_likenesses O__law_union_dots O__law_renamed_dots O__law_drawn_move) v__law_quiet_dots
  have O__law_fair_rows : Ok P w K mg base "_law_fair_rows" P__law_fair_rows 6 (spM K 3 S__law_fair_rows) := ok_M F__law_fair_rows sc__law_fair_rows bs__law_fair_rows (j__law_fair_rows B O__law_roll O__law_drawn_move O__law_power O__law_pick O__law_renamed_rows O__law_rows_of_dots O__law_quiet_dots) v__law_fair_rows
  have O__law_near_rows : Ok P w K mg base "_law_near_rows" P__law_near_rows 7 (spM K 1 S__law_near_rows) := ok_M F__law_near_rows sc__law_near_rows bs__law_near_rows (j__law_near_rows B O__law_shadow_rows O__law_fair_rows O__law_roll O__law_drawn_move) v__law_near_rows
  have O_shadow_paper : Ok P w K mg base "shadow_paper" P_shadow_paper 5 (spD K 1 S_shadow_paper) := ok_D F_shadow_paper sc_shadow_paper bs_shadow_paper (j_shadow_paper O__check_rows O__is_shadow O__broken_paper) v_shadow_paper
  exact fn_D F sc_law (fun cdv A outer s H E hr => j_law B O__law_dice O__law_near_rows O_shadow_paper O__law_first_paper O__law_values O__law_shows O_is_shadow_paper _ cdv A outer s H E hr) v_law
end Dn.K69
open PySem PySem.W PySem.Calls PyProof.Rows
theorem PySem.Challenge.cw_truenames_k69_papers_on_shadows_holds : PySem.Challenge.rw_truenames_k69_papers_on_shadows.Holds := by
  w_on; o_law
  refine HandSHeadRun.head_any (r := OpenLaw.row PySem.Challenge.rw_truenames_k69_papers_on_shadows) (q := view (OpenLaw.row PySem.Challenge.rw_truenames_k69_papers_on_shadows).prog [52]) (H := Hd.hk) (ob := Hd.ob) (M := 6000) (loose := Hd.loose) (d := HandSHeadRun.topDef (OpenLaw.row PySem.Challenge.rw_truenames_k69_papers_on_shadows).prog 52) (kwd := []) Hd.ob_eq
    (by kernel_rfl) (fun s => by kernel_rfl) Hd.run (by kernel_rfl) (by kernel_rfl) (by kernel_rfl) (by rfl) (by first | assumption | decide +kernel) (by decide +kernel) ⟨rfl, rfl, rfl, rfl, rfl, by decide +kernel⟩ ?hw ?hc
  case hw => w_witness2
  case hc =>
    refine L2.walk_ofE (l := PySem.Challenge.rw_truenames_k69_papers_on_shadows) (n := 63) (k := 8) (x := "_law_script") (CX := L2.CX0) rfl (by decide) (by kernel_rfl) ⟨rfl, by decide, by decide⟩ ?F (fun _ _ _ _ z => z)
    intro w mg fa h Y G hmg0
    obtain ⟨K, KX, c⟩ := Y
    have hmg : mg ("law" : PySem.Str) = some (.ref fa) := by
      have e : (HandSHeadRun.topDef (OpenLaw.row PySem.Challenge.rw_truenames_k69_papers_on_shadows).prog 52).name = ("law" : PySem.Str) := by kernel_rfl
      rw [← e]
      exact hmg0
    obtain ⟨fd, hb, hF⟩ := Dn.K69.facts (P := (PySem.Challenge.rw_truenames_k69_papers_on_shadows).prog) (w := w) KX G hmg c
    refine ⟨K, fd, Dn.spD K 1 Dn.K69.S_law, KX, hb, fun H a ns hl _ hS => ?_, hF⟩
    exact Dn.K69.start_law hl hS
