import PyProof.Rows.All
import Wide.All
import OpenK.AllK
import Wide.FinOn
import KE.KStateDown
import HandS.ForMost
import HandS.More
import HandS.WordsExc
import HandS.Defaults
import HandS.IsInst
import HandS.Deep
import HandS.DeepEq
import HandS.TupAny
import HandS.Conv
import HandS.Style
import HandS.Wide
import HandS.Evl
import KE.GoesEnum
import HandS.SortInts
import HandS.Base
import HandS.Call
import HandS.Ends
import HandS.Words
import HandS.Head0
import HandS.Head1
import HandS.Head2
import HandS.HeadEnd
import HandS.HeadHook1
import HandS.HeadHook2
import PySem.Challenge.RW_truenames_k05_papers_about_groups_judged
set_option Elab.async false
set_option linter.all false
set_option maxRecDepth 100000
set_option autoImplicit false
set_option maxHeartbeats 4000000
/-! Own layer: what a body does, told over deep values and slots, without the heap. -/
namespace Dn
open PySem L2

abbrev D := PyData
def keyB : Key → D
  | .inl i => .int i
  | .inr x => .str x
def dkD (kvs : List (Key × D)) : List (D × D) := kvs.map fun p => (keyB p.1, p.2)
mutual
inductive Rp (K : PySem.W.Frag) (G : Hp) : V → D → Prop
  | non : Rp K G .non .none
  | bl (b : Bool) : Rp K G (.bl b) (.bool b)
  | int (i : Int) : Rp K G (.int i) (.int i)
  | str (x : Str) : Rp K G (.str x) (.str x)
  | lst {a : Addr} {xs : List V} {ds : List D} : G a = some (.lst xs) → RpAll K G xs ds → Rp K G (.ref a) (.list ds)
  | tup {a : Addr} {xs : List V} {ds : List D} : G a = some (.tup xs) → RpAll K G xs ds → Rp K G (.ref a) (.tuple ds)
  | dct {a : Addr} {kws : List (Key × V)} {kvs : List (Key × D)} {dd : List (D × D)} : G a = some (.dK kws) → RpKv K G kws kvs → dd = dkD kvs → Rp K G (.ref a) (.dict dd)
  | frz {a : Addr} {xs : List V} {ds : List D} : SqL K G a xs → RpAll K G xs ds → Rp K G (.ref a) (.dict [(.none, .tuple ds)])
inductive RpAll (K : PySem.W.Frag) (G : Hp) : List V → List D → Prop
  | nil : RpAll K G [] []
  | cons {v : V} {vs : List V} {d : D} {ds : List D} : Rp K G v d → RpAll K G vs ds → RpAll K G (v :: vs) (d :: ds)
inductive RpKv (K : PySem.W.Frag) (G : Hp) : List (Key × V) → List (Key × D) → Prop
  | nil : RpKv K G [] []
  | cons {k : Key} {v : V} {d : D} {kws : List (Key × V)} {kvs : List (Key × D)} : Rp K G v d → RpKv K G kws kvs → RpKv K G ((k, v) :: kws) ((k, d) :: kvs)
end

open Evl
mutual
theorem Rp.mono {K : PySem.W.Frag} {G G' : Hp} (e : Ex G G') : ∀ {v : V} {d : D}, Rp K G v d → Rp K G' v d
  | _, _, .non => .non
  | _, _, .bl b => .bl b
  | _, _, .int b => .int b
  | _, _, .str b => .str b
  | _, _, .lst h r => .lst (e _ _ h) (RpAll.mono e r)
  | _, _, .tup h r => .tup (e _ _ h) (RpAll.mono e r)
  | _, _, .dct h r z => .dct (e _ _ h) (RpKv.mono e r) z
  | _, _, .frz h r => .frz (ex_l e h) (RpAll.mono e r)
theorem RpAll.mono {K : PySem.W.Frag} {G G' : Hp} (e : Ex G G') : ∀ {v : List V} {d : List D}, RpAll K G v d → RpAll K G' v d
  | _, _, .nil => .nil
  | _, _, .cons h r => .cons (Rp.mono e h) (RpAll.mono e r)
theorem RpKv.mono {K : PySem.W.Frag} {G G' : Hp} (e : Ex G G') : ∀ {v : List (Key × V)} {d : List (Key × D)}, RpKv K G v d → RpKv K G' v d
  | _, _, .nil => .nil
  | _, _, .cons h r => .cons (Rp.mono e h) (RpKv.mono e r)
end
section
variable {K : PySem.W.Frag} {G : Hp}
theorem RpAll.length : ∀ {vs : List V} {ds : List D}, RpAll K G vs ds → vs.length = ds.length
  | _, _, .nil => rfl
  | _, _, .cons _ r => by simp [RpAll.length r]
theorem RpAll.get : ∀ {vs : List V} {ds : List D} {i : Nat} {d : D}, RpAll K G vs ds → ds[i]? = some d → ∃ v, vs[i]? = some v ∧ Rp K G v d
  | _, _, _, _, .nil, e => by simp at e
  | _, _, 0, _, .cons h _, e => by simp at e; subst e; exact ⟨_, rfl, h⟩
  | _, _, i + 1, _, .cons _ r, e => by simpa using RpAll.get r (by simpa using e)
theorem RpAll.get' : ∀ {vs : List V} {ds : List D} {i : Nat} {v : V}, RpAll K G vs ds → vs[i]? = some v → ∃ d, ds[i]? = some d ∧ Rp K G v d
  | _, _, _, _, .nil, e => by simp at e
  | _, _, 0, _, .cons h _, e => by simp at e; subst e; exact ⟨_, rfl, h⟩
  | _, _, i + 1, _, .cons _ r, e => by simpa using RpAll.get' r (by simpa using e)
theorem RpAll.append : ∀ {vs ws : List V} {ds es : List D}, RpAll K G vs ds → RpAll K G ws es → RpAll K G (vs ++ ws) (ds ++ es)
  | _, _, _, _, .nil, s => s
  | _, _, _, _, .cons h r, s => .cons h (RpAll.append r s)
theorem RpAll.set : ∀ {vs : List V} {ds : List D} {v : V} {d : D} (i : Nat), RpAll K G vs ds → Rp K G v d → RpAll K G (vs.set i v) (ds.set i d)
  | _, _, _, _, _, .nil, _ => .nil
  | _, _, _, _, 0, .cons _ r, s => .cons s r
  | _, _, _, _, i + 1, .cons h r, s => .cons h (RpAll.set i r s)
theorem RpAll.take : ∀ {vs : List V} {ds : List D} (i : Nat), RpAll K G vs ds → RpAll K G (vs.take i) (ds.take i)
  | _, _, 0, _ => by simp; exact .nil
  | _, _, _ + 1, .nil => .nil
  | _, _, i + 1, .cons h r => .cons h (RpAll.take i r)
theorem RpAll.drop : ∀ {vs : List V} {ds : List D} (i : Nat), RpAll K G vs ds → RpAll K G (vs.drop i) (ds.drop i)
  | _, _, 0, r => r
  | _, _, _ + 1, .nil => .nil
  | _, _, i + 1, .cons _ r => RpAll.drop i r
theorem RpAll.erase : ∀ {vs : List V} {ds : List D} (i : Nat), RpAll K G vs ds → RpAll K G (vs.eraseIdx i) (ds.eraseIdx i)
  | _, _, _, .nil => .nil
  | _, _, 0, .cons _ r => r
  | _, _, i + 1, .cons h r => .cons h (RpAll.erase i r)
theorem RpAll.dropLast {vs : List V} {ds : List D} (r : RpAll K G vs ds) : RpAll K G vs.dropLast ds.dropLast := by
  rw [List.dropLast_eq_take, List.dropLast_eq_take, r.length]; exact r.take _
theorem RpAll.reverse : ∀ {vs : List V} {ds : List D}, RpAll K G vs ds → RpAll K G vs.reverse ds.reverse
  | _, _, .nil => .nil
  | _, _, .cons h r => by simpa using r.reverse.append (.cons h .nil)
theorem RpAll.ints : ∀ (ns : List Int), RpAll K G (ns.map V.int) (ns.map PyData.int)
  | [] => .nil
  | n :: ns => .cons (.int n) (RpAll.ints ns)
theorem RpAll.of_ints : ∀ {ns : List Int} {vs : List V}, RpAll K G vs (ns.map PyData.int) → vs = ns.map V.int
  | [], _, .nil => rfl
  | n :: ns, _, .cons (.int _) r => by rw [RpAll.of_ints r]; rfl
theorem RpAll.of_bls : ∀ {ns : List Bool} {vs : List V}, RpAll K G vs (ns.map PyData.bool) → vs = ns.map V.bl
  | [], _, .nil => rfl
  | n :: ns, _, .cons (.bl _) r => by rw [RpAll.of_bls r]; rfl
end

/-! ### slots -/
inductive MO where
  | lst (ds : List D)
  | dct (kvs : List (Key × D))
  | par (p : Addr) (m : MO)
  /-- a kept range 0, 1, .. -/
  | rng (j : Int)
def RpO (K : PySem.W.Frag) (G : Hp) : MO → HO → Prop
  | .lst ds, .lst vs => RpAll K G vs ds
  | .dct kvs, .dK kws => Paired (fun (p : Key × D) (q : Key × V) => p.1 = q.1 ∧ Rp K G q.2 p.2) kvs kws
  | .par _ m, o => RpO K G m o
  | .rng j, .rng lo hi => lo = 0 ∧ hi = j
  | _, _ => False
theorem RpO.mono {K : PySem.W.Frag} {G G' : Hp} (e : Ex G G') : ∀ {m : MO} {o : HO}, RpO K G m o → RpO K G' m o
  | .par _ m, o, h => by unfold RpO at h ⊢; exact RpO.mono (m := m) e h
  | .lst ds, o, h => by cases o <;> first | exact RpAll.mono e h | exact False.elim h
  | .dct ds, o, h => by cases o <;> first | exact False.elim h | exact Paired.mapP h fun p q z => ⟨z.1, z.2.mono e⟩
  | .rng j, o, h => by cases o <;> first | exact False.elim h | exact h
inductive SV where
  | im (d : D)
  | ow (m : MO)
abbrev Env := List (Option SV)
def Own (ρ : Env) (σ : L2.St) (a : Addr) : Prop := ∃ (i : Nat) (m : MO), ρ[i]? = some (some (SV.ow m)) ∧ σ[i]? = some (some (V.ref a))
open Classical in
noncomputable def hide (O : Addr → Prop) (H : Hp) : Hp := fun a => if O a then none else H a
theorem hide_some {O : Addr → Prop} {H : Hp} {a : Addr} {o : HO} : hide O H a = some o ↔ ¬ O a ∧ H a = some o := by
  unfold hide; by_cases h : O a <;> simp [h]
theorem hide_ex {O : Addr → Prop} {H : Hp} : Ex (hide O H) H := fun _ _ h => (hide_some.1 h).2
def Hd (T : Addr → Prop) (ρ : Env) (σ : L2.St) (a : Addr) : Prop := T a ∨ Own ρ σ a
structure RS (K : PySem.W.Frag) (T : Addr → Prop) (ρ : Env) (σ : L2.St) (H : Hp) : Prop where
  len : ρ.length = σ.length
  im : ∀ (i : Nat) (d : D), ρ[i]? = some (some (SV.im d)) → ∃ v, σ[i]? = some (some v) ∧ Rp K (hide (Hd T ρ σ) H) v d
  ow : ∀ (i : Nat) (m : MO), ρ[i]? = some (some (SV.ow m)) → ∃ a o, σ[i]? = some (some (V.ref a)) ∧ H a = some o ∧ RpO K (hide (Hd T ρ σ) H) m o
  inj : ∀ (i j : Nat) (m m' : MO) (a : Addr), ρ[i]? = some (some (SV.ow m)) → ρ[j]? = some (some (SV.ow m')) → σ[i]? = some (some (V.ref a)) → σ[j]? = some (some (V.ref a)) → i = j
  dis : ∀ a, T a → ¬ Own ρ σ a
  dom : ∀ a, T a → H a ≠ none
  tag : ∀ (i : Nat) (p : Addr) (m : MO) (a : Addr), ρ[i]? = some (some (SV.ow (.par p m))) → σ[i]? = some (some (V.ref a)) → a = p
structure Po (ρ : Env) (σ : L2.St) (H : Hp) (ρ' : Env) (σ' : L2.St) (H' : Hp) : Prop where
  keep : ∀ a o, ¬ Own ρ σ a → H a = some o → H' a = some o
  own : ∀ a, Own ρ' σ' a → Own ρ σ a ∨ H a = none
  dom : ∀ a, H a ≠ none → H' a ≠ none
section
variable {K : PySem.W.Frag} {T : Addr → Prop} {ρ ρ1 ρ2 : Env} {σ σ1 σ2 : L2.St} {H H1 H2 : Hp}
theorem Po.refl : Po ρ σ H ρ σ H := ⟨fun _ _ _ h => h, fun _ h => .inl h, fun _ h => h⟩
theorem Po.trans (p : Po ρ σ H ρ1 σ1 H1) (q : Po ρ1 σ1 H1 ρ2 σ2 H2) : Po ρ σ H ρ2 σ2 H2 where
  keep := fun a o n h => q.keep a o (fun w => by
    rcases p.own a w with w | w
    · exact n w
    · rw [w] at h; cases h) (p.keep a o n h)
  own := fun a w => by
    rcases q.own a w with w | w
    · exact p.own a w
    · by_cases h : H a = none
      · exact .inr h
      · exact absurd w (p.dom a h)
  dom := fun a h => q.dom a (p.dom a h)
theorem Po.fz (p : Po ρ σ H ρ1 σ1 H1) : Ex (hide (Hd T ρ σ) H) (hide (Hd T ρ1 σ1) H1) := fun a o h => by
  obtain ⟨n, h⟩ := hide_some.1 h
  refine hide_some.2 ⟨?_, p.keep a o (fun w => n (.inr w)) h⟩
  rintro (t | w)
  · exact n (.inl t)
  · rcases p.own a w with w | w
    · exact n (.inr w)
    · rw [w] at h; cases h
theorem RS.ownDom (r : RS K T ρ σ H) {a : Addr} (h : Own ρ σ a) : H a ≠ none := by
  obtain ⟨i, m, h1, h2⟩ := h
  obtain ⟨b, o, e1, e2, _⟩ := r.ow i m h1
  rw [h2] at e1; cases e1; rw [e2]; simp
theorem RS.hdDom (r : RS K T ρ σ H) {a : Addr} (h : Hd T ρ σ a) : H a ≠ none := h.elim (r.dom a) r.ownDom
/-- the heap has grown -/
theorem RS.grow (r : RS K T ρ σ H) (e : Ex H H1) : RS K T ρ σ H1 := by
  have ez : Ex (hide (Hd T ρ σ) H) (hide (Hd T ρ σ) H1) := fun a o h => hide_some.2 ⟨(hide_some.1 h).1, e _ _ (hide_some.1 h).2⟩
  refine ⟨r.len, fun i d h => ?_, fun i m h => ?_, r.inj, r.dis, fun a t => ?_, r.tag⟩
  · obtain ⟨v, h1, h2⟩ := r.im i d h; exact ⟨v, h1, h2.mono ez⟩
  · obtain ⟨a, o, h1, h2, h3⟩ := r.ow i m h; exact ⟨a, o, h1, e _ _ h2, h3.mono ez⟩
  · cases q : H a with
    | none => exact absurd q (r.dom a t)
    | some o => rw [e a o q]; simp
theorem Po.grow (e : Ex H H1) : Po ρ σ H ρ σ H1 := ⟨fun a o _ h => e a o h, fun _ h => .inl h, fun a h => by
  cases q : H a with
  | none => exact absurd q h
  | some o => rw [e a o q]; simp⟩
theorem hide_new {O : Addr → Prop} {p : Addr} {o : HO} (hO : ∀ a, O a → H a ≠ none) (h : H p = none) : hide O (upd H p o) p = some o := hide_some.2 ⟨fun w => hO p w h, upd_same⟩
theorem hide_grow {O : Addr → Prop} (e : Ex H H1) : Ex (hide O H) (hide O H1) := fun a o h => hide_some.2 ⟨(hide_some.1 h).1, e _ _ (hide_some.1 h).2⟩
end

/-! ### readings over slots -/
abbrev DE := Env → (D → Env → Prop) → Prop
abbrev DT := Env → (Bool → Env → Prop) → Prop
abbrev DA := Env → (List D → Env → Prop) → Prop
structure DEnds where
  nx : Env → Prop
  rt : D → Env → Prop
  bk : Env → Prop := fun _ => False
  ct : Env → Prop := fun _ => False
abbrev DS := DEnds → Env → Prop
abbrev DG := D → Env → (Env → Prop) → Prop

structure JE (X : Cx) (e : Expr) (f : DE) : Prop where
  ex : ∃ t, PE X e t ∧ ∀ (T : Addr → Prop) (ρ : Env) (σ : L2.St) (H : Hp) (QD : D → Env → Prop) (Q : VK), RS X.K T ρ σ H → f ρ QD →
    (∀ d ρ' v H', RS X.K T ρ' σ H' → Po ρ σ H ρ' σ H' → Rp X.K (hide (Hd T ρ' σ) H') v d → QD d ρ' → Q v H') → t σ H Q
structure JT (X : Cx) (e : Expr) (f : DT) : Prop where
  ex : ∃ t, PT X e t ∧ ∀ (T : Addr → Prop) (ρ : Env) (σ : L2.St) (H : Hp) (QD : Bool → Env → Prop) (Q : Bool → Hp → Prop), RS X.K T ρ σ H → f ρ QD →
    (∀ b ρ' H', RS X.K T ρ' σ H' → Po ρ σ H ρ' σ H' → QD b ρ' → Q b H') → t σ H Q
structure JA (X : Cx) (es : List Expr) (f : DA) : Prop where
  ex : ∃ t, PA X es t ∧ ∀ (T : Addr → Prop) (ρ : Env) (σ : L2.St) (H : Hp) (QD : List D → Env → Prop) (Q : List V → Hp → Prop), RS X.K T ρ σ H → f ρ QD →
    (∀ ds ρ' vs H', RS X.K T ρ' σ H' → Po ρ σ H ρ' σ H' → RpAll X.K (hide (Hd T ρ' σ) H') vs ds → QD ds ρ' → Q vs H') → t σ H Q
structure EndOk (K : PySem.W.Frag) (T : Addr → Prop) (ρ : Env) (σ : L2.St) (H : Hp) (E : DEnds) (D : Ends) : Prop where
  nx : ∀ ρ' σ' H', RS K T ρ' σ' H' → Po ρ σ H ρ' σ' H' → E.nx ρ' → D.nx σ' H'
  rt : ∀ d ρ' σ' v H', RS K T ρ' σ' H' → Po ρ σ H ρ' σ' H' → Rp K (hide (Hd T ρ' σ') H') v d → E.rt d ρ' → D.rt v H'
  bk : ∀ ρ' σ' H', RS K T ρ' σ' H' → Po ρ σ H ρ' σ' H' → E.bk ρ' → D.bk σ' H'
  ct : ∀ ρ' σ' H', RS K T ρ' σ' H' → Po ρ σ H ρ' σ' H' → E.ct ρ' → D.ct σ' H'
structure JS (X : Cx) (st : Stmt) (f : DS) : Prop where
  ex : ∃ t, PS X st t ∧ ∀ (T : Addr → Prop) (ρ : Env) (σ : L2.St) (H : Hp) (E : DEnds) (D : Ends), RS X.K T ρ σ H → f E ρ → EndOk X.K T ρ σ H E D → t D σ H
structure JSs (X : Cx) (st : List Stmt) (f : DS) : Prop where
  ex : ∃ t, PSs X st t ∧ ∀ (T : Addr → Prop) (ρ : Env) (σ : L2.St) (H : Hp) (E : DEnds) (D : Ends), RS X.K T ρ σ H → f E ρ → EndOk X.K T ρ σ H E D → t D σ H
theorem EndOk.step {K : PySem.W.Frag} {T : Addr → Prop} {ρ ρ1 : Env} {σ σ1 : L2.St} {H H1 : Hp} {E : DEnds} {D : Ends} (e : EndOk K T ρ σ H E D) (p : Po ρ σ H ρ1 σ1 H1) : EndOk K T ρ1 σ1 H1 E D :=
  ⟨fun a b c r q => e.nx a b c r (p.trans q), fun a b c d f r q => e.rt a b c d f r (p.trans q), fun a b c r q => e.bk a b c r (p.trans q), fun a b c r q => e.ct a b c r (p.trans q)⟩

/-! ### expressions -/
section
variable {X : Cx} {a b c : Expr} {fa fb fc : DE} {pos : Pos}
def dVar (i : Nat) : DE := fun ρ Q => match ρ[i]? with
  | some (some (SV.im d)) => Q d ρ
  | _ => False
theorem je_var {i : Nat} {x : Str} (hN : X.N[i]? = some x) (hv : Vis X.env.scope x) (hd : (x == ("__debug__" : Str)) = false := by decide) (hcd : (x == ("__classdict__" : Str)) = false := by decide) : JE X (.Name x pos) (dVar i) := by
  refine ⟨tVar i, pe_var hN hv hd hcd, fun T ρ σ H QD Q r h k => ?_⟩
  unfold dVar at h
  split at h
  · rename_i d e
    obtain ⟨v, e1, e2⟩ := r.im i d e
    exact ⟨v, e1, k d ρ v H r .refl e2 h⟩
  · exact False.elim h
def dC (d : D) : DE := fun ρ Q => Q d ρ
theorem je_of {e : Expr} {v : V} {d : D} (h : PE X e (tC v)) (hr : ∀ G, Rp X.K G v d) : JE X e (dC d) := ⟨tC v, h, fun T ρ σ H QD Q r h k => k d ρ v H r .refl (hr _) h⟩
theorem je_int {i : Int} {j} : JE X (.Constant (.int i) j pos) (dC (.int i)) := je_of pe_int fun _ => .int i
theorem je_bl {i : Bool} {j} : JE X (.Constant (.bool i) j pos) (dC (.bool i)) := je_of pe_bl fun _ => .bl i
theorem je_non {j} : JE X (.Constant .none j pos) (dC .none) := je_of pe_non fun _ => .non
theorem je_str {x : Str} {j} : JE X (.Constant (.str x) j pos) (dC (.str x)) := je_of pe_str fun _ => .str x
theorem je_globI {x : Str} {i : Int} {t : Tok} (hm : X.mg x = some (.int i t)) (hg : Gl X x) (hd : (x == ("__debug__" : Str)) = false := by decide) : JE X (.Name x pos) (dC (.int i)) := je_of (pe_glob (v := V.int i) hg hm ⟨t, rfl⟩ hd) fun _ => .int i

/-- a two-place operation by values -/
structure OpD (X : Cx) (f : Value → Value → Sem Value) (op : D → D → (D → Prop) → Prop) : Prop where
  ex : ∃ r : R2, OpR X f r ∧ ∀ (O : Addr → Prop) (H : Hp) (x y : V) (d e : D) (QD : D → Prop) (Q : VK), (∀ a, O a → H a ≠ none) → Rp X.K (hide O H) x d → Rp X.K (hide O H) y e → op d e QD →
    (∀ z v H', Ex H H' → Rp X.K (hide O H') v z → QD z → Q v H') → r x y H Q
def dBin (op : D → D → (D → Prop) → Prop) (fa fb : DE) : DE := fun ρ Q => fa ρ fun x ρ1 => fb ρ1 fun y ρ2 => op x y fun z => Q z ρ2
theorem je_two {e : Expr} {op : D → D → (D → Prop) → Prop} {r : R2} (hr : ∀ (O : Addr → Prop) (H : Hp) (x y : V) (d e : D) (QD : D → Prop) (Q : VK), (∀ a, O a → H a ≠ none) → Rp X.K (hide O H) x d → Rp X.K (hide O H) y e → op d e QD →
    (∀ z v H', Ex H H' → Rp X.K (hide O H') v z → QD z → Q v H') → r x y H Q) (ha : JE X a fa) (hb : JE X b fb) (he : ∀ ta tb, PE X a ta → PE X b tb → PE X e (tOp r ta tb)) : JE X e (dBin op fa fb) := by
  obtain ⟨ta, pa, ka⟩ := ha.ex
  obtain ⟨tb, pb, kb⟩ := hb.ex
  refine ⟨_, he ta tb pa pb, fun T ρ σ H QD Q r h k => ?_⟩
  refine ka T ρ σ H _ _ r h fun d ρ1 v H1 r1 p1 v1 h1 => ?_
  refine kb T ρ1 σ H1 _ _ r1 h1 fun e ρ2 w H2 r2 p2 v2 h2 => ?_
  refine hr (Hd T ρ2 σ) H2 v w d e _ _ (fun a => r2.hdDom) (v1.mono p2.fz) v2 h2 fun z u H3 e3 v3 h3 => ?_
  exact k z ρ2 u H3 (r2.grow e3) ((p1.trans p2).trans (.grow e3)) v3 h3
theorem je_bin {o : Operator} {op : D → D → (D → Prop) → Prop} (ho : OpD X (binaryOp o) op) (ha : JE X a fa) (hb : JE X b fb) : JE X (.BinOp a o b pos) (dBin op fa fb) := by
  obtain ⟨r, h1, h2⟩ := ho.ex
  exact je_two h2 ha hb fun _ _ => pe_op h1
theorem je_cmp {o : CmpOp} {op : D → D → (D → Prop) → Prop} (ho : OpD X (compareOp o) op) (ha : JE X a fa) (hb : JE X b fb) (hm : behindInMarks o b = false) : JE X (.Compare a [o] [b] pos) (dBin op fa fb) := by
  obtain ⟨r, h1, h2⟩ := ho.ex
  exact je_two h2 ha hb fun _ _ pa pb => pe_cmpR h1 pa pb hm
end
end Dn
set_option Elab.async false
set_option linter.all false
set_option maxRecDepth 100000
set_option autoImplicit false
set_option maxHeartbeats 4000000
namespace Dn
open PySem L2 Evl
section
variable {X : Cx} {a b c : Expr} {fa fb fc : DE} {pos : Pos}

/-! ### operators -/
theorem ex_new {O : Addr → Prop} {H : Hp} {p : Addr} {o : HO} (h : H p = none) : Ex (hide O H) (hide O (upd H p o)) := hide_grow (Ex.new h)
/-- a new list, a new tuple of what is known -/
theorem rp_newL {K : PySem.W.Frag} {O : Addr → Prop} {H : Hp} {p : Addr} {vs : List V} {ds : List D} (hO : ∀ a, O a → H a ≠ none) (h : H p = none) (r : RpAll K (hide O H) vs ds) : Rp K (hide O (upd H p (.lst vs))) (.ref p) (.list ds) := .lst (hide_new hO h) (r.mono (ex_new h))
theorem rp_newT {K : PySem.W.Frag} {O : Addr → Prop} {H : Hp} {p : Addr} {vs : List V} {ds : List D} (hO : ∀ a, O a → H a ≠ none) (h : H p = none) (r : RpAll K (hide O H) vs ds) : Rp K (hide O (upd H p (.tup vs))) (.ref p) (.tuple ds) := .tup (hide_new hO h) (r.mono (ex_new h))
theorem lt_of {K : PySem.W.Frag} {H : Hp} {a : Addr} {xs : List V} (h : H a = some (.tup xs)) : SqT K H a xs := .inl (.inl h)
theorem sqt_of {K : PySem.W.Frag} {O : Addr → Prop} {H : Hp} {a : Addr} {xs : List V} (h : hide O H a = some (.tup xs)) : SqT K H a xs := lt_of (hide_ex _ _ h)
theorem sql_of {K : PySem.W.Frag} {O : Addr → Prop} {H : Hp} {a : Addr} {xs : List V} (h : SqL K (hide O H) a xs) : SqL K H a xs := ex_l hide_ex h
theorem at_of {O : Addr → Prop} {H : Hp} {a : Addr} {o : HO} (h : hide O H a = some o) : H a = some o := (hide_some.1 h).2

def dAdd : D → D → (D → Prop) → Prop
  | .int i, .int j => fun Q => Q (.int (i + j))
  | .tuple xs, .tuple ys => fun Q => xs.length + ys.length ≤ 16777216 ∧ Q (.tuple (xs ++ ys))
  | .list xs, .list ys => fun Q => xs.length + ys.length ≤ 16777216 ∧ Q (.list (xs ++ ys))
  | .str x, .str y => fun Q => x.length + y.length ≤ 16777216 ∧ Q (.str (x ++ y))
  | _, _ => fun _ => False
theorem opd_add : OpD X (binaryOp .Add) dAdd := by
  refine ⟨_, .or op_add (.or op_catA (.or op_cat op_add_str)), fun O H x y d e QD Q hO rx ry h k => ?_⟩
  cases rx <;> cases ry <;> first | exact False.elim h | skip
  · exact .inl ⟨_, _, rfl, rfl, k _ _ H (.refl H) (.int _) h⟩
  · obtain ⟨hz, h⟩ := h
    exact .inr (.inr (.inr ⟨_, _, rfl, rfl, hz, k _ _ H (.refl H) (.str _) h⟩))
  · rename_i p xs ds hp rp q ys es hq rq
    obtain ⟨hz, h⟩ := h
    refine .inr (.inr (.inl ⟨_, _, _, _, rfl, rfl, at_of hp, at_of hq, by rw [rp.length, rq.length]; exact hz, fun l hl => k _ _ _ (Ex.new hl) (rp_newL hO hl (rp.append rq)) h⟩))
  · rename_i p xs ds hp rp q ys es hq rq
    obtain ⟨hz, h⟩ := h
    refine .inr (.inl ⟨_, _, _, _, rfl, rfl, sqt_of hp, sqt_of hq, by rw [rp.length, rq.length]; exact hz, fun e => ?_, fun _ e => ?_, fun _ _ l hl => k _ _ _ (Ex.new hl) (rp_newT hO hl (rp.append rq)) h⟩)
    · subst e; cases rp; exact k _ _ H (.refl H) (.tup hq rq) h
    · subst e; cases rq; exact k _ _ H (.refl H) (.tup hp rp) (by simpa using h)
/-- ints alone -/
def dI2 (C : Int → Int → Prop) (g : Int → Int → D) : D → D → (D → Prop) → Prop
  | .int i, .int j => fun Q => C i j ∧ Q (g i j)
  | _, _ => fun _ => False
theorem opd_i2 {f : Value → Value → Sem Value} {C : Int → Int → Prop} {g : Int → Int → D} {gv : Int → Int → V} (ho : OpR X f (rI C gv)) (hg : ∀ i j G, Rp X.K G (gv i j) (g i j)) : OpD X f (dI2 C g) := by
  refine ⟨_, ho, fun O H x y d e QD Q hO rx ry h k => ?_⟩
  cases rx <;> cases ry <;> first | exact False.elim h | skip
  exact ⟨_, _, rfl, rfl, h.1, k _ _ H (.refl H) (hg _ _ _) h.2⟩
theorem opd_i2' {f : Value → Value → Sem Value} {g : Int → Int → D} {gv : Int → Int → V} (ho : OpR X f (rI0 gv)) (hg : ∀ i j G, Rp X.K G (gv i j) (g i j)) : OpD X f (dI2 (fun _ _ => True) g) := by
  refine ⟨_, ho, fun O H x y d e QD Q hO rx ry h k => ?_⟩
  cases rx <;> cases ry <;> first | exact False.elim h | skip
  exact ⟨_, _, rfl, rfl, k _ _ H (.refl H) (hg _ _ _) h.2⟩
abbrev dSub := dI2 (fun _ _ => True) fun i j => .int (i - j)
abbrev dMul := dI2 CMulW fun i j => .int (i * j)
abbrev dFdiv := dI2 CDivW fun i j => .int (i / j)
abbrev dMod := dI2 (fun _ j => 0 < j) fun i j => .int (i % j)
abbrev dPow := dI2 CPow fun i j => .int (i ^ j.toNat)
abbrev dLt := dI2 (fun _ _ => True) fun i j => .bool (decide (i < j))
abbrev dLe := dI2 (fun _ _ => True) fun i j => .bool (decide (i ≤ j))
abbrev dGt := dI2 (fun _ _ => True) fun i j => .bool (decide (j < i))
abbrev dGe := dI2 (fun _ _ => True) fun i j => .bool (decide (j ≤ i))
theorem opd_sub : OpD X (binaryOp .Sub) dSub := opd_i2' op_sub fun _ _ _ => .int _
theorem opd_mul : OpD X (binaryOp .Mult) dMul := opd_i2 op_mulW fun _ _ _ => .int _
theorem opd_fdiv : OpD X (binaryOp .FloorDiv) dFdiv := opd_i2 op_fdivW fun _ _ _ => .int _
theorem opd_mod : OpD X (binaryOp .Mod) dMod := opd_i2 op_mod fun _ _ _ => .int _
theorem opd_pow : OpD X (binaryOp .Pow) dPow := opd_i2 op_pow fun _ _ _ => .int _
theorem opd_lt : OpD X (compareOp .Lt) dLt := opd_i2' op_lt fun _ _ _ => .bl _
theorem opd_le : OpD X (compareOp .LtE) dLe := opd_i2' op_le fun _ _ _ => .bl _
theorem opd_gt : OpD X (compareOp .Gt) dGt := opd_i2' op_gt fun _ _ _ => .bl _
theorem opd_ge : OpD X (compareOp .GtE) dGe := opd_i2' op_ge fun _ _ _ => .bl _

/-! ### equality -/
mutual
theorem Rp.dp {K : PySem.W.Frag} {O : Addr → Prop} {H : Hp} : ∀ {v : V} {d : D}, Rp K (hide O H) v d → d.canLay0 = true → Dp K H v d
  | _, _, .non, _ => .non
  | _, _, .bl _, _ => .bl _
  | _, _, .int _, _ => .int _
  | _, _, .str _, _ => .str _
  | _, _, .lst h r, c => .lst (.inl (.inl (at_of h))) (RpAll.dp r (by simpa only [PyData.canLay0] using c))
  | _, _, .tup h r, c => .tup (sqt_of h) (RpAll.dp r (by simpa only [PyData.canLay0] using c))
  | _, _, .dct _ _ _, c => by simp [PyData.canLay0] at c
  | _, _, .frz _ _, c => by simp [PyData.canLay0] at c
theorem RpAll.dp {K : PySem.W.Frag} {O : Addr → Prop} {H : Hp} : ∀ {v : List V} {d : List D}, RpAll K (hide O H) v d → PyData.canLayAll0 d = true → DpAll K H v d
  | _, _, .nil, _ => .nil
  | _, _, .cons h r, c => by
    simp only [PyData.canLayAll0, Bool.and_eq_true] at c
    exact .cons (Rp.dp h c.1) (RpAll.dp r c.2)
end
theorem shaped_lay {d : D} (h : SeqAt.shaped d = true) : d.canLay0 = true := by
  unfold SeqAt.shaped at h; rw [Bool.and_eq_true] at h; exact h.1
def dEq : D → D → (D → Prop) → Prop := fun x y Q => SeqAt.shaped x = true ∧ SeqAt.shaped y = true ∧ Q (.bool (PyData.eqv x y))
def dNe : D → D → (D → Prop) → Prop := fun x y Q => SeqAt.shaped x = true ∧ SeqAt.shaped y = true ∧ Q (.bool (!PyData.eqv x y))
theorem opd_eq (hu : X.A.units + 64 < cLine) : OpD X (compareOp .Eq) dEq := by
  refine ⟨_, op_eqD hu, fun O H x y d e QD Q hO rx ry h k => ?_⟩
  exact ⟨d, e, rx.dp (shaped_lay h.1), ry.dp (shaped_lay h.2.1), h.1, h.2.1, k _ _ H (.refl H) (.bl _) h.2.2⟩
theorem opd_ne (hu : X.A.units + 64 < cLine) : OpD X (compareOp .NotEq) dNe := by
  refine ⟨_, op_neD hu, fun O H x y d e QD Q hO rx ry h k => ?_⟩
  exact ⟨d, e, rx.dp (shaped_lay h.1), ry.dp (shaped_lay h.2.1), h.1, h.2.1, k _ _ H (.refl H) (.bl _) h.2.2⟩
/-- is None, is True -/
def isN : D → Bool
  | .none => true
  | _ => false
theorem isN_rp {K : PySem.W.Frag} {G : Hp} {v : V} {d : D} (r : Rp K G v d) : decide (v = .non) = isN d := by cases r <;> simp [isN]
def dIs : D → D → (D → Prop) → Prop
  | x, .none => fun Q => Q (.bool (isN x))
  | .bool x, .bool y => fun Q => Q (.bool (decide (x = y)))
  | _, _ => fun _ => False
def dIsNot : D → D → (D → Prop) → Prop
  | x, .none => fun Q => Q (.bool (!isN x))
  | .bool x, .bool y => fun Q => Q (.bool (!decide (x = y)))
  | _, _ => fun _ => False
theorem opd_is : OpD X (compareOp .Is) dIs := by
  refine ⟨_, .or op_isN op_isBl, fun O H x y d e QD Q hO rx ry h k => ?_⟩
  cases ry with
  | non => refine .inl ⟨rfl, k _ _ H (.refl H) (.bl _) ?_⟩; rw [isN_rp rx]; cases d <;> exact h
  | bl y => cases rx <;> first | exact False.elim h | exact .inr ⟨_, _, rfl, rfl, k _ _ H (.refl H) (.bl _) h⟩
  | _ => cases rx <;> exact False.elim h
theorem opd_isnot : OpD X (compareOp .IsNot) dIsNot := by
  refine ⟨_, .or op_notN op_notBl, fun O H x y d e QD Q hO rx ry h k => ?_⟩
  cases ry with
  | non => refine .inl ⟨rfl, k _ _ H (.refl H) (.bl _) ?_⟩; rw [isN_rp rx]; cases d <;> exact h
  | bl y => cases rx <;> first | exact False.elim h | exact .inr ⟨_, _, rfl, rfl, k _ _ H (.refl H) (.bl _) h⟩
  | _ => cases rx <;> exact False.elim h

/-! ### chains, and, or, not, if -/
def dChain (op op' : D → D → (D → Prop) → Prop) (fa fb fc : DE) : DE := fun ρ Q => fa ρ fun x ρ1 => fb ρ1 fun y ρ2 => op x y fun z => match z with
  | .bool true => fc ρ2 fun w ρ3 => op' y w fun z => Q z ρ3
  | .bool false => Q (.bool false) ρ2
  | _ => False
theorem je_chain {o o' : CmpOp} {op op' : D → D → (D → Prop) → Prop} (ho : OpD X (compareOp o) op) (ho' : OpD X (compareOp o') op') (ha : JE X a fa) (hb : JE X b fb) (hc : JE X c fc) (hm : lastMarks [o, o'] [b, c] = false := by with_unfolding_all rfl) :
    JE X (.Compare a [o, o'] [b, c] pos) (dChain op op' fa fb fc) := by
  obtain ⟨r, h1, h2⟩ := ho.ex
  obtain ⟨r', h1', h2'⟩ := ho'.ex
  obtain ⟨ta, pa, ka⟩ := ha.ex
  obtain ⟨tb, pb, kb⟩ := hb.ex
  obtain ⟨tc, pc, kc⟩ := hc.ex
  refine ⟨_, pe_chain h1 h1' pa pb pc hm, fun T ρ σ H QD Q r h k => ?_⟩
  refine ka T ρ σ H _ _ r h fun d ρ1 v H1 r1 p1 v1 h => ?_
  refine kb T ρ1 σ H1 _ _ r1 h fun e ρ2 w H2 r2 p2 v2 h => ?_
  refine h2 (Hd T ρ2 σ) H2 v w d e _ _ (fun a => r2.hdDom) (v1.mono p2.fz) v2 h fun z u H3 e3 v3 h => ?_
  have r3 := r2.grow e3
  have p3 : Po ρ2 σ H2 ρ2 σ H3 := .grow e3
  cases v3 with
  | bl q =>
    refine ⟨q, rfl, ?_⟩
    cases q with
    | false => exact k _ _ _ _ r3 ((p1.trans p2).trans p3) (.bl _) h
    | true =>
      rw [if_pos rfl]
      refine kc T ρ2 σ H3 _ _ r3 h fun g ρ4 y H4 r4 p4 v4 h => ?_
      refine h2' (Hd T ρ4 σ) H4 w y e g _ _ (fun a => r4.hdDom) ((v2.mono p3.fz).mono p4.fz) v4 h fun z u H5 e5 v5 h => ?_
      exact k z ρ4 u H5 (r4.grow e5) (((p1.trans p2).trans p3).trans (p4.trans (.grow e5))) v5 h
  | _ => exact False.elim h
def dAnd (fa fb : DE) : DE := fun ρ Q => fa ρ fun x ρ1 => match x with
  | .bool true => fb ρ1 Q
  | .bool false => Q (.bool false) ρ1
  | _ => False
def dOr (fa fb : DE) : DE := fun ρ Q => fa ρ fun x ρ1 => match x with
  | .bool true => Q (.bool true) ρ1
  | .bool false => fb ρ1 Q
  | _ => False
def dNot (fa : DE) : DE := fun ρ Q => fa ρ fun x ρ1 => match x with
  | .bool b => Q (.bool (!b)) ρ1
  | _ => False
variable {rest : List Expr}
theorem je_one {op} (ha : JE X a fa) : JE X (.BoolOp op [a] pos) fa := let ⟨t, p, k⟩ := ha.ex; ⟨t, pe_one p, k⟩
theorem je_and (ha : JE X a fa) (hb : JE X (.BoolOp .And (b :: rest) pos) fb) : JE X (.BoolOp .And (a :: b :: rest) pos) (dAnd fa fb) := by
  obtain ⟨ta, pa, ka⟩ := ha.ex
  obtain ⟨tb, pb, kb⟩ := hb.ex
  refine ⟨_, pe_and pa pb, fun T ρ σ H QD Q r h k => ?_⟩
  refine ka T ρ σ H _ _ r h fun d ρ1 v H1 r1 p1 v1 h => ?_
  cases v1 with
  | bl q =>
    refine ⟨q, rfl, ?_⟩
    cases q with
    | false => exact k _ _ _ _ r1 p1 (.bl _) h
    | true => exact kb T ρ1 σ H1 _ _ r1 h fun e ρ2 w H2 r2 p2 v2 h => k _ _ _ _ r2 (p1.trans p2) v2 h
  | _ => exact False.elim h
theorem je_or (ha : JE X a fa) (hb : JE X (.BoolOp .Or (b :: rest) pos) fb) : JE X (.BoolOp .Or (a :: b :: rest) pos) (dOr fa fb) := by
  obtain ⟨ta, pa, ka⟩ := ha.ex
  obtain ⟨tb, pb, kb⟩ := hb.ex
  refine ⟨_, pe_or pa pb, fun T ρ σ H QD Q r h k => ?_⟩
  refine ka T ρ σ H _ _ r h fun d ρ1 v H1 r1 p1 v1 h => ?_
  cases v1 with
  | bl q =>
    refine ⟨q, rfl, ?_⟩
    cases q with
    | true => exact k _ _ _ _ r1 p1 (.bl _) h
    | false => exact kb T ρ1 σ H1 _ _ r1 h fun e ρ2 w H2 r2 p2 v2 h => k _ _ _ _ r2 (p1.trans p2) v2 h
  | _ => exact False.elim h
theorem je_not (ha : JE X a fa) : JE X (.UnaryOp .Not a pos) (dNot fa) := by
  obtain ⟨ta, pa, ka⟩ := ha.ex
  refine ⟨_, pe_not pa, fun T ρ σ H QD Q r h k => ?_⟩
  refine ka T ρ σ H _ _ r h fun d ρ1 v H1 r1 p1 v1 h => ?_
  cases v1 with
  | bl q => exact ⟨q, rfl, k _ _ _ _ r1 p1 (.bl _) h⟩
  | _ => exact False.elim h
def dNeg (fa : DE) : DE := fun ρ Q => fa ρ fun x ρ1 => match x with
  | .int i => Q (.int (-i)) ρ1
  | _ => False
theorem je_neg (ha : JE X a fa) : JE X (.UnaryOp .USub a pos) (dNeg fa) := by
  obtain ⟨ta, pa, ka⟩ := ha.ex
  refine ⟨_, pe_un un_neg pa, fun T ρ σ H QD Q r h k => ?_⟩
  refine ka T ρ σ H _ _ r h fun d ρ1 v H1 r1 p1 v1 h => ?_
  cases v1 with
  | int q => exact ⟨q, rfl, k _ _ _ _ r1 p1 (.int _) h⟩
  | _ => exact False.elim h
/-- tests -/
def dTst (fa : DE) : DT := fun ρ Q => fa ρ fun x ρ1 => match x with
  | .bool b => Q b ρ1
  | _ => False
theorem jt_val (ha : JE X a fa) (he : ∀ whole, isTrue a X.env whole = (do let v ← whole; standAt a.pos; holding [v] (truthy v)) := by intro _; rfl) : JT X a (dTst fa) := by
  obtain ⟨ta, pa, ka⟩ := ha.ex
  refine ⟨_, pt_val pa he, fun T ρ σ H QD Q r h k => ?_⟩
  refine ka T ρ σ H _ _ r h fun d ρ1 v H1 r1 p1 v1 h => ?_
  cases v1 with
  | bl q => exact ⟨q, rfl, k _ _ _ r1 p1 h⟩
  | _ => exact False.elim h
theorem jt_cmp {o : CmpOp} {op : D → D → (D → Prop) → Prop} (ho : OpD X (compareOp o) op) (ha : JE X a fa) (hb : JE X b fb) (hm : behindInMarks o b = false) : JT X (.Compare a [o] [b] pos) (dTst (dBin op fa fb)) := by
  obtain ⟨r, h1, h2⟩ := ho.ex
  obtain ⟨ta, pa, ka⟩ := ha.ex
  obtain ⟨tb, pb, kb⟩ := hb.ex
  refine ⟨_, pt_cmpR h1 pa pb hm, fun T ρ σ H QD Q r h k => ?_⟩
  refine ka T ρ σ H _ _ r h fun d ρ1 v H1 r1 p1 v1 h => ?_
  refine kb T ρ1 σ H1 _ _ r1 h fun e ρ2 w H2 r2 p2 v2 h => ?_
  refine h2 (Hd T ρ2 σ) H2 v w d e _ _ (fun a => r2.hdDom) (v1.mono p2.fz) v2 h fun z u H3 e3 v3 h => ?_
  cases v3 with
  | bl q => exact ⟨q, rfl, k _ _ _ (r2.grow e3) ((p1.trans p2).trans (.grow e3)) h⟩
  | _ => exact False.elim h
def dTNot (f : DT) : DT := fun ρ Q => f ρ fun b ρ1 => Q (!b) ρ1
variable {gA gB : DT}
theorem jt_not (ha : JT X a gA) : JT X (.UnaryOp .Not a pos) (dTNot gA) := by
  obtain ⟨ta, pa, ka⟩ := ha.ex
  refine ⟨_, pt_not pa, fun T ρ σ H QD Q r h k => ?_⟩
  exact ka T ρ σ H _ _ r h fun d ρ1 H1 r1 p1 h => k _ _ _ r1 p1 h
def dTAnd (f g : DT) : DT := fun ρ Q => f ρ fun b ρ1 => if b = true then g ρ1 Q else Q false ρ1
def dTOr (f g : DT) : DT := fun ρ Q => f ρ fun b ρ1 => if b = true then Q true ρ1 else g ρ1 Q
structure JW (X : Cx) (e : Expr) (f : DT) : Prop where
  ex : ∃ t, PW X e t ∧ ∀ (T : Addr → Prop) (ρ : Env) (σ : L2.St) (H : Hp) (QD : Bool → Env → Prop) (Q : Bool → Hp → Prop), RS X.K T ρ σ H → f ρ QD →
    (∀ b ρ' H', RS X.K T ρ' σ H' → Po ρ σ H ρ' σ H' → QD b ρ' → Q b H') → t σ H Q
theorem JW.jt (h : JW X a gA) : JT X a gA := let ⟨t, p, k⟩ := h.ex; ⟨t, p.pt, k⟩
theorem jw_and1 (ha : JT X a gA) : JW X (.BoolOp .And [a] pos) gA := let ⟨t, p, k⟩ := ha.ex; ⟨t, pw_and1 p, k⟩
theorem jw_or1 (ha : JT X a gA) : JW X (.BoolOp .Or [a] pos) gA := let ⟨t, p, k⟩ := ha.ex; ⟨t, pw_or1 p, k⟩
theorem jw_and (ha : JT X a gA) (hb : JW X (.BoolOp .And (b :: rest) pos) gB) : JW X (.BoolOp .And (a :: b :: rest) pos) (dTAnd gA gB) := by
  obtain ⟨ta, pa, ka⟩ := ha.ex
  obtain ⟨tb, pb, kb⟩ := hb.ex
  refine ⟨_, pw_and pa pb, fun T ρ σ H QD Q r h k => ?_⟩
  refine ka T ρ σ H _ _ r h fun b ρ1 H1 r1 p1 h => ?_
  cases b with
  | true => exact kb T ρ1 σ H1 _ _ r1 h fun e ρ2 H2 r2 p2 h => k _ _ _ r2 (p1.trans p2) h
  | false => exact k _ _ _ r1 p1 h
theorem jw_or (ha : JT X a gA) (hb : JW X (.BoolOp .Or (b :: rest) pos) gB) : JW X (.BoolOp .Or (a :: b :: rest) pos) (dTOr gA gB) := by
  obtain ⟨ta, pa, ka⟩ := ha.ex
  obtain ⟨tb, pb, kb⟩ := hb.ex
  refine ⟨_, pw_or pa pb, fun T ρ σ H QD Q r h k => ?_⟩
  refine ka T ρ σ H _ _ r h fun b ρ1 H1 r1 p1 h => ?_
  cases b with
  | true => exact k _ _ _ r1 p1 h
  | false => exact kb T ρ1 σ H1 _ _ r1 h fun e ρ2 H2 r2 p2 h => k _ _ _ r2 (p1.trans p2) h
def dIfE (g : DT) (fa fb : DE) : DE := fun ρ Q => g ρ fun b ρ1 => if b = true then fa ρ1 Q else fb ρ1 Q
theorem je_if (hc : JT X c gA) (ha : JE X a fa) (hb : JE X b fb) : JE X (.IfExp c a b pos) (dIfE gA fa fb) := by
  obtain ⟨tc, pc, kc⟩ := hc.ex
  obtain ⟨ta, pa, ka⟩ := ha.ex
  obtain ⟨tb, pb, kb⟩ := hb.ex
  refine ⟨_, pe_ifExp pc pa pb, fun T ρ σ H QD Q r h k => ?_⟩
  refine kc T ρ σ H _ _ r h fun b ρ1 H1 r1 p1 h => ?_
  cases b with
  | true => exact ka T ρ1 σ H1 _ _ r1 h fun e ρ2 w H2 r2 p2 v2 h => k _ _ _ _ r2 (p1.trans p2) v2 h
  | false => exact kb T ρ1 σ H1 _ _ r1 h fun e ρ2 w H2 r2 p2 v2 h => k _ _ _ _ r2 (p1.trans p2) v2 h
end
end Dn
set_option Elab.async false
set_option linter.all false
set_option maxRecDepth 100000
set_option autoImplicit false
set_option maxHeartbeats 4000000
namespace Dn
open PySem L2 Evl
section
variable {K : PySem.W.Frag} {T T' : Addr → Prop} {ρ ρ' ρ1 : Env} {σ σ' σ1 : L2.St} {H H' H1 : Hp}
def plus (T : Addr → Prop) (p : Addr) : Addr → Prop := fun a => a = p ∨ T a
theorem hide_sub {O O' : Addr → Prop} (h : ∀ a, O' a → O a) : Ex (hide O H) (hide O' H) := fun a o e => hide_some.2 ⟨fun w => (hide_some.1 e).1 (h a w), (hide_some.1 e).2⟩
theorem RS.sub (r : RS K T ρ σ H) (h : ∀ a, T' a → T a) : RS K T' ρ σ H := by
  have e : Ex (hide (Hd T ρ σ) H) (hide (Hd T' ρ σ) H) := hide_sub fun a w => w.elim (fun t => .inl (h a t)) .inr
  refine ⟨r.len, fun i d q => ?_, fun i m q => ?_, r.inj, fun a t => r.dis a (h a t), fun a t => r.dom a (h a t), r.tag⟩
  · obtain ⟨v, h1, h2⟩ := r.im i d q; exact ⟨v, h1, h2.mono e⟩
  · obtain ⟨a, o, h1, h2, h3⟩ := r.ow i m q; exact ⟨a, o, h1, h2, h3.mono e⟩
theorem RS.unplus {p : Addr} (r : RS K (plus T p) ρ σ H) : RS K T ρ σ H := r.sub fun _ t => .inr t
theorem hd_unplus {p : Addr} : Ex (hide (Hd (plus T p) ρ σ) H) (hide (Hd T ρ σ) H) := hide_sub fun a w => w.elim (fun t => .inl (.inr t)) .inr
/-- a new object, kept aside -/
theorem RS.laid {p : Addr} {o : HO} (r : RS K T ρ σ H) (h : H p = none) : RS K (plus T p) ρ σ (upd H p o) := by
  have r1 := r.grow (Ex.new (o := o) h)
  have e : Ex (hide (Hd T ρ σ) H) (hide (Hd (plus T p) ρ σ) (upd H p o)) := fun a u w => by
    obtain ⟨n, w⟩ := hide_some.1 w
    refine hide_some.2 ⟨?_, by rw [upd_ne (ne_of_none w h)]; exact w⟩
    rintro ((t | t) | t)
    · subst t; rw [h] at w; cases w
    · exact n (.inl t)
    · exact n (.inr t)
  refine ⟨r.len, fun i d q => ?_, fun i m q => ?_, r.inj, fun a t => ?_, fun a t => ?_, r.tag⟩
  · obtain ⟨v, h1, h2⟩ := r.im i d q; exact ⟨v, h1, h2.mono e⟩
  · obtain ⟨a, u, h1, h2, h3⟩ := r.ow i m q; exact ⟨a, u, h1, by rw [upd_ne (ne_of_none h2 h)]; exact h2, h3.mono e⟩
  · rcases t with t | t
    · subst t; intro w; exact r.ownDom w h
    · exact r.dis a t
  · rcases t with t | t
    · subst t; rw [upd_same]; simp
    · exact r1.dom a t
theorem hd_laid {p : Addr} {o : HO} (h : H p = none) : Ex (hide (Hd T ρ σ) H) (hide (Hd (plus T p) ρ σ) (upd H p o)) := fun a u w => by
  obtain ⟨n, w⟩ := hide_some.1 w
  refine hide_some.2 ⟨?_, by rw [upd_ne (ne_of_none w h)]; exact w⟩
  rintro ((t | t) | t)
  · subst t; rw [h] at w; cases w
  · exact n (.inl t)
  · exact n (.inr t)
theorem getset {α : Type} {l : List (Option α)} {i j : Nat} {x y : Option α} (h : (l.set i x)[j]? = some y) : (i = j ∧ i < l.length ∧ y = x) ∨ (i ≠ j ∧ l[j]? = some y) := by
  by_cases e : i = j
  · subst e
    by_cases l1 : i < l.length
    · rw [List.getElem?_set_self l1] at h; cases h; exact .inl ⟨rfl, l1, rfl⟩
    · rw [List.getElem?_eq_none_iff.mpr (by rw [List.length_set]; omega)] at h; cases h
  · rw [List.getElem?_set_ne e] at h; exact .inr ⟨e, h⟩
theorem own_setIm {i : Nat} {d : D} {v : Option V} {a : Addr} (w : Own (ρ.set i (some (SV.im d))) (σ.set i v) a) : Own ρ σ a := by
  obtain ⟨j, m, h1, h2⟩ := w
  rcases getset h1 with ⟨_, _, h⟩ | ⟨ne, h⟩
  · cases h
  · rw [List.getElem?_set_ne ne] at h2; exact ⟨j, m, h, h2⟩
theorem RS.setIm {i : Nat} {v : V} {d : D} (r : RS K T ρ σ H) (h : Rp K (hide (Hd T ρ σ) H) v d) : RS K T (ρ.set i (some (SV.im d))) (σ.set i (some v)) H := by
  have e : Ex (hide (Hd T ρ σ) H) (hide (Hd T (ρ.set i (some (SV.im d))) (σ.set i (some v))) H) := hide_sub fun a w => w.elim .inl fun w => .inr (own_setIm w)
  refine ⟨by simp [r.len], fun j d' q => ?_, fun j m q => ?_, fun j k m m' a q1 q2 q3 q4 => ?_, fun a t w => r.dis a t (own_setIm w), r.dom, fun j p m a q1 q2 => ?_⟩
  · rcases getset q with ⟨e1, l, h1⟩ | ⟨ne, h1⟩
    · cases h1; subst e1
      exact ⟨v, List.getElem?_set_self (by rw [← r.len]; exact l), h.mono e⟩
    · obtain ⟨u, h2, h3⟩ := r.im j d' h1
      exact ⟨u, by rw [List.getElem?_set_ne ne]; exact h2, h3.mono e⟩
  · rcases getset q with ⟨_, _, h1⟩ | ⟨ne, h1⟩
    · cases h1
    · obtain ⟨a, o, h2, h3, h4⟩ := r.ow j m h1
      exact ⟨a, o, by rw [List.getElem?_set_ne ne]; exact h2, h3, h4.mono e⟩
  · rcases getset q1 with ⟨_, _, h1⟩ | ⟨n1, h1⟩
    · cases h1
    · rcases getset q2 with ⟨_, _, h2⟩ | ⟨n2, h2⟩
      · cases h2
      · rw [List.getElem?_set_ne n1] at q3; rw [List.getElem?_set_ne n2] at q4
        exact r.inj j k m m' a h1 h2 q3 q4
  · rcases getset q1 with ⟨_, _, h1⟩ | ⟨n1, h1⟩
    · cases h1
    · rw [List.getElem?_set_ne n1] at q2; exact r.tag j p m a h1 q2
theorem Po.setIm {i : Nat} {v : V} {d : D} : Po ρ σ H (ρ.set i (some (SV.im d))) (σ.set i (some v)) H := ⟨fun _ _ _ h => h, fun a w => .inl (own_setIm w), fun _ h => h⟩
theorem own_setOw {i : Nat} {m : MO} {p a : Addr} (w : Own (ρ.set i (some (SV.ow m))) (σ.set i (some (V.ref p))) a) : a = p ∨ Own ρ σ a := by
  obtain ⟨j, m', h1, h2⟩ := w
  rcases getset h1 with ⟨e, _, h⟩ | ⟨ne, h⟩
  · subst e
    rcases getset h2 with ⟨_, _, h⟩ | ⟨ne, _⟩
    · cases h; exact .inl rfl
    · exact absurd rfl ne
  · rw [List.getElem?_set_ne ne] at h2; exact .inr ⟨j, m', h, h2⟩
theorem RS.setOw {i : Nat} {p : Addr} {m : MO} {o : HO} (r : RS K (plus T p) ρ σ H) (ho : H p = some o) (h : RpO K (hide (Hd (plus T p) ρ σ) H) m o) (hT : ¬ T p) (hm : ∀ q m', m = .par q m' → p = q) : RS K T (ρ.set i (some (SV.ow m))) (σ.set i (some (V.ref p))) H := by
  have hp : ¬ Own ρ σ p := r.dis p (.inl rfl)
  have e : Ex (hide (Hd (plus T p) ρ σ) H) (hide (Hd T (ρ.set i (some (SV.ow m))) (σ.set i (some (V.ref p)))) H) := hide_sub fun a w => w.elim (fun t => .inl (.inr t)) fun w => (own_setOw w).elim (fun q => .inl (.inl q)) .inr
  refine ⟨by simp [r.len], fun j d' q => ?_, fun j m' q => ?_, fun j k m1 m2 a q1 q2 q3 q4 => ?_, fun a t w => ?_, fun a t => r.dom a (.inr t), fun j q m1 a q1 q2 => ?_⟩
  · rcases getset q with ⟨_, _, h1⟩ | ⟨ne, h1⟩
    · cases h1
    · obtain ⟨u, h2, h3⟩ := r.im j d' h1
      exact ⟨u, by rw [List.getElem?_set_ne ne]; exact h2, h3.mono e⟩
  · rcases getset q with ⟨e1, l, h1⟩ | ⟨ne, h1⟩
    · cases h1; subst e1
      exact ⟨p, o, List.getElem?_set_self (by rw [← r.len]; exact l), ho, h.mono e⟩
    · obtain ⟨a, u, h2, h3, h4⟩ := r.ow j m' h1
      exact ⟨a, u, by rw [List.getElem?_set_ne ne]; exact h2, h3, h4.mono e⟩
  · rcases getset q1 with ⟨e1, l1, h1⟩ | ⟨n1, h1⟩
    · rcases getset q2 with ⟨e2, _, h2⟩ | ⟨n2, h2⟩
      · exact e1.symm.trans e2
      · subst e1
        rcases getset q3 with ⟨_, _, z⟩ | ⟨z, _⟩
        · cases z; rw [List.getElem?_set_ne n2] at q4; exact absurd ⟨k, m2, h2, q4⟩ hp
        · exact absurd rfl z
    · rcases getset q2 with ⟨e2, _, h2⟩ | ⟨n2, h2⟩
      · subst e2
        rcases getset q4 with ⟨_, _, z⟩ | ⟨z, _⟩
        · cases z; rw [List.getElem?_set_ne n1] at q3; exact absurd ⟨j, m1, h1, q3⟩ hp
        · exact absurd rfl z
      · rw [List.getElem?_set_ne n1] at q3; rw [List.getElem?_set_ne n2] at q4
        exact r.inj j k m1 m2 a h1 h2 q3 q4
  · rcases own_setOw w with w | w
    · subst w; exact hT t
    · exact r.dis a (.inr t) w
  · rcases getset q1 with ⟨e1, _, h1⟩ | ⟨n1, h1⟩
    · cases h1; subst e1
      rcases getset q2 with ⟨_, _, h2⟩ | ⟨z, _⟩
      · cases h2; exact hm _ _ rfl
      · exact absurd rfl z
    · rw [List.getElem?_set_ne n1] at q2; exact r.tag j q m1 a h1 q2
theorem Po.setOw {i : Nat} {p : Addr} {m : MO} (q : Po ρ σ H ρ1 σ1 H1) (hp : H p = none) : Po ρ σ H (ρ1.set i (some (SV.ow m))) (σ1.set i (some (V.ref p))) H1 :=
  ⟨q.keep, fun a w => (own_setOw w).elim (fun e => by subst e; exact .inr hp) (q.own a), q.dom⟩
/-- the owned object at slot i is changed -/
theorem RS.write {i : Nat} {p : Addr} {m m' : MO} {o' : HO} (r : RS K T ρ σ H) (hm : ρ[i]? = some (some (SV.ow m))) (hp : σ[i]? = some (some (V.ref p))) (h : RpO K (hide (Hd T ρ σ) H) m' o') (ht : ∀ q m1, m' = .par q m1 → p = q) : RS K T (ρ.set i (some (SV.ow m'))) σ (upd H p o') := by
  have hO : Own ρ σ p := ⟨i, m, hm, hp⟩
  have hw : ∀ a, Own (ρ.set i (some (SV.ow m'))) σ a → Own ρ σ a := fun a ⟨j, m1, h1, h2⟩ => by
    rcases getset h1 with ⟨e, _, _⟩ | ⟨_, h1⟩
    · subst e; rw [hp] at h2; cases h2; exact hO
    · exact ⟨j, m1, h1, h2⟩
  have e : Ex (hide (Hd T ρ σ) H) (hide (Hd T (ρ.set i (some (SV.ow m'))) σ) (upd H p o')) := fun a u w => by
    obtain ⟨n, w⟩ := hide_some.1 w
    have ne : a ≠ p := fun z => n (.inr (z ▸ hO))
    refine hide_some.2 ⟨fun z => n (z.elim .inl fun z => .inr (hw a z)), by rw [upd_ne ne]; exact w⟩
  have il : i < ρ.length := (List.getElem?_eq_some_iff.mp hm).1
  refine ⟨by simp [r.len], fun j d' q => ?_, fun j m1 q => ?_, fun j k m1 m2 a q1 q2 q3 q4 => ?_, fun a t w => r.dis a t (hw a w), fun a t => ?_, fun j q m1 a q1 q2 => ?_⟩
  · rcases getset q with ⟨_, _, h1⟩ | ⟨ne, h1⟩
    · cases h1
    · obtain ⟨u, h2, h3⟩ := r.im j d' h1
      exact ⟨u, h2, h3.mono e⟩
  · rcases getset q with ⟨e1, l, h1⟩ | ⟨ne, h1⟩
    · cases h1; subst e1
      exact ⟨p, o', hp, upd_same, h.mono e⟩
    · obtain ⟨a, u, h2, h3, h4⟩ := r.ow j m1 h1
      have ne' : a ≠ p := fun z => by subst z; exact ne (r.inj i j m m1 a hm h1 hp h2)
      exact ⟨a, u, h2, by rw [upd_ne ne']; exact h3, h4.mono e⟩
  · have back : ∀ (j : Nat) (m1 : MO), (ρ.set i (some (SV.ow m')))[j]? = some (some (SV.ow m1)) → ∃ m2 : MO, ρ[j]? = some (some (SV.ow m2)) := fun j m1 q => by
      rcases getset q with ⟨e, _, _⟩ | ⟨_, h⟩
      · subst e; exact ⟨m, hm⟩
      · exact ⟨m1, h⟩
    obtain ⟨_, h1⟩ := back j m1 q1
    obtain ⟨_, h2⟩ := back k m2 q2
    exact r.inj j k _ _ a h1 h2 q3 q4
  · have ne : a ≠ p := fun z => by subst z; exact r.dis a t hO
    rw [upd_ne ne]; exact r.dom a t
  · rcases getset q1 with ⟨e1, _, h1⟩ | ⟨_, h1⟩
    · cases h1; subst e1; rw [hp] at q2; cases q2; exact ht _ _ rfl
    · exact r.tag j q m1 a h1 q2
theorem Po.write {i : Nat} {p : Addr} {m m' : MO} {o' : HO} (hm : ρ[i]? = some (some (SV.ow m))) (hp : σ[i]? = some (some (V.ref p))) : Po ρ σ H (ρ.set i (some (SV.ow m'))) σ (upd H p o') := by
  have hO : Own ρ σ p := ⟨i, m, hm, hp⟩
  refine ⟨fun a o n h => by rw [upd_ne (fun z => n (by subst z; exact hO))]; exact h, fun a ⟨j, m1, h1, h2⟩ => ?_, fun a h => ?_⟩
  · rcases getset h1 with ⟨e, _, _⟩ | ⟨_, h1⟩
    · subst e; rw [hp] at h2; cases h2; exact .inl hO
    · exact .inl ⟨j, m1, h1, h2⟩
  · by_cases e : a = p
    · subst e; rw [upd_same]; simp
    · rw [upd_ne e]; exact h
/-- an owned object is kept no longer: it stands as it is -/
theorem own_freeze {i : Nat} {d : D} {a : Addr} (w : Own (ρ.set i (some (SV.im d))) σ a) : Own ρ σ a := by
  obtain ⟨j, m, h1, h2⟩ := w
  rcases getset h1 with ⟨_, _, h⟩ | ⟨ne, h⟩
  · cases h
  · exact ⟨j, m, h, h2⟩
theorem RS.freeze {i : Nat} {ds : List D} (r : RS K T ρ σ H) (hm : ρ[i]? = some (some (SV.ow (.lst ds)))) : RS K T (ρ.set i (some (SV.im (.list ds)))) σ H := by
  obtain ⟨p, o, hp, ho, hr⟩ := r.ow i _ hm
  have hO : Own ρ σ p := ⟨i, _, hm, hp⟩
  have e : Ex (hide (Hd T ρ σ) H) (hide (Hd T (ρ.set i (some (SV.im (.list ds)))) σ) H) := hide_sub fun a w => w.elim .inl fun w => .inr (own_freeze w)
  have vis : hide (Hd T (ρ.set i (some (SV.im (.list ds)))) σ) H p = some o := hide_some.2 ⟨fun w => by
    rcases w with w | ⟨j, m, h1, h2⟩
    · exact r.dis p w hO
    · rcases getset h1 with ⟨_, _, h⟩ | ⟨ne, h⟩
      · cases h
      · exact ne (r.inj i j _ m p hm h hp h2), ho⟩
  refine ⟨by simp [r.len], fun j d' q => ?_, fun j m1 q => ?_, fun j k m1 m2 a q1 q2 q3 q4 => ?_, fun a t w => r.dis a t (own_freeze w), r.dom, fun j q m1 a q1 q2 => ?_⟩
  · rcases getset q with ⟨e1, l, h1⟩ | ⟨ne, h1⟩
    · cases h1; subst e1
      cases o with
      | lst vs => exact ⟨.ref p, hp, .lst vis (RpAll.mono e hr)⟩
      | _ => exact False.elim hr
    · obtain ⟨u, h2, h3⟩ := r.im j d' h1
      exact ⟨u, h2, h3.mono e⟩
  · rcases getset q with ⟨_, _, h1⟩ | ⟨ne, h1⟩
    · cases h1
    · obtain ⟨a, u, h2, h3, h4⟩ := r.ow j m1 h1
      exact ⟨a, u, h2, h3, h4.mono e⟩
  · rcases getset q1 with ⟨_, _, h1⟩ | ⟨_, h1⟩
    · cases h1
    · rcases getset q2 with ⟨_, _, h2⟩ | ⟨_, h2⟩
      · cases h2
      · exact r.inj j k m1 m2 a h1 h2 q3 q4
  · rcases getset q1 with ⟨_, _, h1⟩ | ⟨_, h1⟩
    · cases h1
    · exact r.tag j q m1 a h1 q2
theorem Po.freeze {i : Nat} {d : D} : Po ρ σ H (ρ.set i (some (SV.im d))) σ H := ⟨fun _ _ _ h => h, fun a w => .inl (own_freeze w), fun _ h => h⟩
end
end Dn
set_option Elab.async false
set_option linter.all false
set_option maxRecDepth 100000
set_option autoImplicit false
set_option maxHeartbeats 4000000
namespace Dn
open PySem L2 Evl
/-! ### values that may be new objects -/
/-- a value frozen, or a new object that is kept aside -/
def Fits (K : PySem.W.Frag) (T : Addr → Prop) (ρ : Env) (σ : L2.St) (H0 H : Hp) (v : V) : SV → Prop
  | .im d => RS K T ρ σ H ∧ Rp K (hide (Hd T ρ σ) H) v d
  | .ow m => ∃ p o, v = .ref p ∧ H0 p = none ∧ H p = some o ∧ RS K (plus T p) ρ σ H ∧ RpO K (hide (Hd (plus T p) ρ σ) H) m o ∧ ∀ q m', m = .par q m' → False
abbrev DX := Env → (SV → Env → Prop) → Prop
structure JX (X : Cx) (e : Expr) (f : DX) : Prop where
  ex : ∃ t, PE X e t ∧ ∀ (T : Addr → Prop) (ρ : Env) (σ : L2.St) (H : Hp) (QD : SV → Env → Prop) (Q : VK), RS X.K T ρ σ H → f ρ QD →
    (∀ d ρ' v H', Fits X.K T ρ' σ H H' v d → Po ρ σ H ρ' σ H' → QD d ρ' → Q v H') → t σ H Q
abbrev DL := Env → (List D → Env → Prop) → Prop
/-- a new list -/
structure JL (X : Cx) (e : Expr) (f : DL) : Prop where
  ex : ∃ t, PE X e t ∧ ∀ (T : Addr → Prop) (ρ : Env) (σ : L2.St) (H : Hp) (QD : List D → Env → Prop) (Q : VK), RS X.K T ρ σ H → f ρ QD →
    (∀ ds ρ' p vs H', H p = none → H' p = some (.lst vs) → RS X.K (plus T p) ρ' σ H' → RpAll X.K (hide (Hd (plus T p) ρ' σ) H') vs ds → Po ρ σ H ρ' σ H' → QD ds ρ' → Q (.ref p) H') → t σ H Q
section
variable {X : Cx} {a b c e : Expr} {fa fb fc : DE} {pos : Pos} {es : List Expr}
def xIm (f : DE) : DX := fun ρ Q => f ρ fun d => Q (.im d)
def xOw (f : DL) : DX := fun ρ Q => f ρ fun ds => Q (.ow (.lst ds))
def dOfL (f : DL) : DE := fun ρ Q => f ρ fun ds => Q (.list ds)
theorem JE.jx (h : JE X e fa) : JX X e (xIm fa) := let ⟨t, p, k⟩ := h.ex; ⟨t, p, fun T ρ σ H QD Q r h q => k T ρ σ H _ _ r h fun d ρ' v H' r' p' v' h' => q (SV.im d) ρ' v H' ⟨r', v'⟩ p' h'⟩
theorem JL.jx {f : DL} (h : JL X e f) : JX X e (xOw f) := let ⟨t, p, k⟩ := h.ex; ⟨t, p, fun T ρ σ H QD Q r h q => k T ρ σ H _ _ r h fun ds ρ' p vs H' n s r' v' p' h' => q (SV.ow (.lst ds)) ρ' (.ref p) H' ⟨p, .lst vs, rfl, n, s, r', v', fun _ _ z => nomatch z⟩ p' h'⟩
theorem JL.je {f : DL} (h : JL X e f) : JE X e (dOfL f) := by
  obtain ⟨t, p, k⟩ := h.ex
  refine ⟨t, p, fun T ρ σ H QD Q r h q => k T ρ σ H _ _ r h fun ds ρ' p vs H' n s r' v' p' h' => ?_⟩
  refine q _ _ _ _ r'.unplus p' (.lst (hide_some.2 ⟨?_, s⟩) (v'.mono hd_unplus)) h'
  rintro (w | w)
  · exact r.dom p w n
  · exact r'.dis p (.inl rfl) w

/-! ### argument lists, displays -/
def aNil : DA := fun ρ Q => Q [] ρ
def aCons (f : DE) (g : DA) : DA := fun ρ Q => f ρ fun d ρ1 => g ρ1 fun ds ρ2 => Q (d :: ds) ρ2
theorem ja_nil : JA X [] aNil := ⟨tNil, pa_nil, fun T ρ σ H QD Q r h q => q _ _ _ _ r .refl .nil h⟩
theorem ja_cons {g : DA} (ha : JE X e fa) (hr : JA X es g) (hs : starEach (e :: es) X.env = (false, eval e X.env) :: starEach es X.env := by rfl) : JA X (e :: es) (aCons fa g) := by
  obtain ⟨ta, pa, ka⟩ := ha.ex
  obtain ⟨tr, pr, kr⟩ := hr.ex
  refine ⟨_, pa_cons pa pr hs, fun T ρ σ H QD Q r h q => ?_⟩
  refine ka T ρ σ H _ _ r h fun d ρ1 v H1 r1 p1 v1 h => kr T ρ1 σ H1 _ _ r1 h fun ds ρ2 vs H2 r2 p2 v2 h => ?_
  exact q _ _ _ _ r2 (p1.trans p2) (.cons (v1.mono p2.fz) v2) h
def dTup (g : DA) : DE := fun ρ Q => g ρ fun ds ρ1 => ds.length ≤ 16777216 ∧ Q (.tuple ds) ρ1
def lLst (g : DA) : DL := fun ρ Q => g ρ fun ds ρ1 => ds.length ≤ 16777216 ∧ Q ds ρ1
theorem je_tup {g : DA} {x1} (h : JA X es g) : JE X (.Tuple es x1 pos) (dTup g) := by
  obtain ⟨t, p, k⟩ := h.ex
  refine ⟨_, pe_tup p, fun T ρ σ H QD Q r h q => k T ρ σ H _ _ r h fun ds ρ' vs H' r' p' v' h' => ⟨by rw [v'.length]; exact h'.1, fun l hl => ?_⟩⟩
  exact q _ _ _ _ (r'.grow (Ex.new hl)) (p'.trans (.grow (Ex.new hl))) (rp_newT (fun a => r'.hdDom) hl v') h'.2
theorem jl_lst {g : DA} (h : JA X es g) : JL X (.List es pos) (lLst g) := by
  obtain ⟨t, p, k⟩ := h.ex
  refine ⟨_, pe_lst p, fun T ρ σ H QD Q r h q => k T ρ σ H _ _ r h fun ds ρ' vs H' r' p' v' h' => ⟨by rw [v'.length]; exact h'.1, fun l hl => ?_⟩⟩
  refine q _ _ _ _ _ ?_ upd_same (r'.laid hl) (v'.mono (hd_laid hl)) (p'.trans (.grow (Ex.new hl))) h'.2
  cases z : H l with
  | none => rfl
  | some o => exact absurd hl (p'.dom l (by rw [z]; simp))

/-! ### subscripts -/
def seqD : D → Option (List D)
  | .list ds => some ds
  | .tuple ds => some ds
  | .dict [(.none, .tuple ds)] => some ds
  | _ => none
theorem seq_dk (kvs : List (Key × D)) : seqD (.dict (dkD kvs)) = none := by
  cases kvs with
  | nil => rfl
  | cons p r => obtain ⟨k, d⟩ := p; cases k <;> rfl
theorem seq_rp {K : PySem.W.Frag} {O : Addr → Prop} {H : Hp} {v : V} {d : D} {ds : List D} (r : Rp K (hide O H) v d) (h : seqD d = some ds) : ∃ p xs, v = .ref p ∧ (SqL K H p xs ∨ SqT K H p xs) ∧ RpAll K (hide O H) xs ds := by
  cases r
  case dct kws kvs dd h1 h2 h3 =>
    subst h3
    cases kvs with
    | nil => simp [seqD, dkD] at h
    | cons p r => obtain ⟨k, d⟩ := p; cases k <;> simp [seqD, dkD, keyB] at h
  all_goals simp only [seqD, Option.some.injEq, reduceCtorEq] at h
  · subst h; exact ⟨_, _, rfl, .inl (.inl (.inl (at_of (by assumption)))), by assumption⟩
  · subst h; exact ⟨_, _, rfl, .inr (sqt_of (by assumption)), by assumption⟩
  · subst h; exact ⟨_, _, rfl, .inl (sql_of (by assumption)), by assumption⟩
theorem atI_rp {K : PySem.W.Frag} {G : Hp} {vs : List V} {ds : List D} {i : Int} {d : D} (r : RpAll K G vs ds) (h : atI ds i = some d) : ∃ v, atI vs i = some v ∧ Rp K G v d := by
  unfold atI at h ⊢
  rw [r.length]
  cases e : ixN ds.length i with
  | none => rw [e] at h; cases h
  | some j =>
    rw [e] at h
    exact r.get (show ds[j]? = some d from h)
def dIx : D → D → (D → Prop) → Prop := fun x y Q => match seqD x, y with
  | some ds, .int i => ∃ d, atI ds i = some d ∧ Q d
  | _, _ => False
theorem ix_two {O : Addr → Prop} {H : Hp} {x y : V} {d e : D} {QD : D → Prop} {Q : VK} (rx : Rp X.K (hide O H) x d) (ry : Rp X.K (hide O H) y e) (h : dIx d e QD)
    (k : ∀ z v H', Ex H H' → Rp X.K (hide O H') v z → QD z → Q v H') : rIxL X.K x y H Q ∨ rIxT X.K x y H Q := by
  unfold dIx at h
  split at h
  · rename_i ds i e1
    obtain ⟨z, h1, h2⟩ := h
    obtain ⟨p, xs, rfl, hs, r⟩ := seq_rp rx e1
    obtain ⟨v, h3, h4⟩ := atI_rp r h1
    cases ry
    rcases hs with hs | hs
    · exact .inl ⟨_, _, _, _, rfl, rfl, hs, h3, k _ _ H (.refl H) h4 h2⟩
    · exact .inr ⟨_, _, _, _, rfl, rfl, hs, h3, k _ _ H (.refl H) h4 h2⟩
  · exact False.elim h
theorem je_ix (ha : JE X a fa) (hb : JE X b fb) (hs : PlainIx b := by exact fun _ _ => rfl) : JE X (.Subscript a b pos) (dBin dIx fa fb) :=
  je_two (fun O H x y d e QD Q hO rx ry h k => ix_two rx ry h k) ha hb fun _ _ pa pb => pe_ix (.or ix_list ix_tup) pa pb hs
/-- an owned list's item -/
def dIxO (i : Nat) (fb : DE) : DE := fun ρ Q => (∃ m, ρ[i]? = some (some (SV.ow m))) ∧ fb ρ fun y ρ1 => match ρ1[i]?, y with
  | some (some (.ow (.lst ds))), .int j => ∃ d, atI ds j = some d ∧ Q d ρ1
  | _, _ => False
theorem je_ixO {i : Nat} {x : Str} {px : Pos} (hN : X.N[i]? = some x) (hv : Vis X.env.scope x) (hb : JE X b fb) (hs : PlainIx b := by exact fun _ _ => rfl) (hd : (x == ("__debug__" : Str)) = false := by decide) (hcd : (x == ("__classdict__" : Str)) = false := by decide) :
    JE X (.Subscript (.Name x px) b pos) (dIxO i fb) := by
  obtain ⟨tb, pb, kb⟩ := hb.ex
  refine ⟨_, pe_ix ix_list (pe_var hN hv hd hcd) pb hs, fun T ρ σ H QD Q r h q => ?_⟩
  obtain ⟨⟨m, hm⟩, h⟩ := h
  obtain ⟨p, o, hp, _, _⟩ := r.ow i m hm
  refine ⟨_, hp, kb T ρ σ H _ _ r h fun y ρ1 v H1 r1 p1 v1 h => ?_⟩
  split at h
  · rename_i ds j e1
    obtain ⟨d, h1, h2⟩ := h
    obtain ⟨p', o', hp', ho', hr'⟩ := r1.ow i _ e1
    rw [hp] at hp'; cases hp'
    cases o' with
    | lst vs =>
      obtain ⟨u, h3, h4⟩ := atI_rp (show RpAll _ _ vs ds from hr') h1
      cases v1
      exact ⟨_, _, _, _, rfl, rfl, .inl (.inl ho'), h3, q _ _ _ _ r1 p1 h4 h2⟩
    | _ => exact False.elim hr'
  · exact False.elim h

/-! ### slices -/
def cutD (xs : List D) (lo hi : Option Int) : List D := (xs.drop (HT.sIx xs.length 0 lo)).take (HT.sIx xs.length xs.length hi - HT.sIx xs.length 0 lo)
theorem cut_rp {K : PySem.W.Frag} {G : Hp} {vs : List V} {ds : List D} (r : RpAll K G vs ds) (lo hi : Option Int) : RpAll K G (cutV vs lo hi) (cutD ds lo hi) := by
  unfold cutV cutD; rw [r.length]; exact (r.drop _).take _
abbrev DO := Env → (Option Int → Env → Prop) → Prop
structure JO (X : Cx) (e : Option Expr) (f : DO) : Prop where
  ex : ∃ t, PO X e t ∧ ∀ (T : Addr → Prop) (ρ : Env) (σ : L2.St) (H : Hp) (QD : Option Int → Env → Prop) (Q : Option Int → Hp → Prop), RS X.K T ρ σ H → f ρ QD →
    (∀ d ρ' H', RS X.K T ρ' σ H' → Po ρ σ H ρ' σ H' → QD d ρ' → Q d H') → t σ H Q
def oNone : DO := fun ρ Q => Q none ρ
def oSome (f : DE) : DO := fun ρ Q => f ρ fun d ρ1 => match d with
  | .int i => Q (some i) ρ1
  | _ => False
theorem jo_none : JO X none oNone := ⟨tNoPart, po_none, fun T ρ σ H QD Q r h q => q _ _ _ r .refl h⟩
theorem jo_some (ha : JE X a fa) : JO X (some a) (oSome fa) := by
  obtain ⟨ta, pa, ka⟩ := ha.ex
  refine ⟨_, po_some pa, fun T ρ σ H QD Q r h q => ka T ρ σ H _ _ r h fun d ρ1 v H1 r1 p1 v1 h => ?_⟩
  cases v1 with
  | int i => exact ⟨i, rfl, q _ _ _ r1 p1 h⟩
  | _ => exact False.elim h
def dSl (fa : DE) (lo hi : DO) : DE := fun ρ Q => fa ρ fun x ρ1 => lo ρ1 fun l ρ2 => hi ρ2 fun u ρ3 => match x with
  | .list ds => Q (.list (cutD ds l u)) ρ3
  | .tuple ds => Q (.tuple (cutD ds l u)) ρ3
  | _ => False
theorem sl_or {r r' : V → Option Int → Option Int → Hp → VK → Prop} (h : SlR X r) (h' : SlR X r') : SlR X (fun x lo hi H Q => r x lo hi H Q ∨ r' x lo hi H Q) := by
  intro pins s σ H x v vl vu lo hi sl Q I rx hs pl pu q
  rcases q with q | q
  · exact h pins s σ H x v vl vu lo hi sl Q I rx hs pl pu q
  · exact h' pins s σ H x v vl vu lo hi sl Q I rx hs pl pu q
theorem cut_whole {xs : List D} {lo hi : Option Int} (h : HT.sIx xs.length 0 lo = 0 ∧ HT.sIx xs.length xs.length hi = xs.length) : cutD xs lo hi = xs := by
  unfold cutD; rw [h.1, h.2]; simp
theorem je_sl {lo hi : Option Expr} {fl fh : DO} {p2 : Pos} (ha : JE X a fa) (hl : JO X lo fl) (hh : JO X hi fh) : JE X (.Subscript a (.Slice lo hi none p2) pos) (dSl fa fl fh) := by
  obtain ⟨ta, pa, ka⟩ := ha.ex
  obtain ⟨tl, pl, kl⟩ := hl.ex
  obtain ⟨th, ph, kh⟩ := hh.ex
  refine ⟨_, pe_slice (sl_or sl_list sl_tupA) pa pl ph, fun T ρ σ H QD Q r h q => ka T ρ σ H _ _ r h fun d ρ1 v H1 r1 p1 v1 h => kl T ρ1 σ H1 _ _ r1 h fun l ρ2 H2 r2 p2 h => kh T ρ2 σ H2 _ _ r2 h fun u ρ3 H3 r3 p3 h => ?_⟩
  have v3 := (v1.mono p2.fz).mono p3.fz
  have p := (p1.trans p2).trans p3
  cases v3 with
  | lst hp rr =>
    exact .inl ⟨_, _, rfl, .inl (.inl (at_of hp)), fun n hn => q _ _ _ _ (r3.grow (Ex.new hn)) (p.trans (.grow (Ex.new hn))) (rp_newL (fun a => r3.hdDom) hn (cut_rp rr l u)) h⟩
  | tup hp rr =>
    refine .inr ⟨_, _, rfl, sqt_of hp, fun w => ?_, fun w n hn => q _ _ _ _ (r3.grow (Ex.new hn)) (p.trans (.grow (Ex.new hn))) (rp_newT (fun a => r3.hdDom) hn (cut_rp rr l u)) h⟩
    rw [rr.length] at w
    dsimp only at h; rw [cut_whole w] at h
    exact q _ _ _ _ r3 p (.tup hp rr) h
  | _ => exact False.elim h
end
end Dn
set_option Elab.async false
set_option linter.all false
set_option maxRecDepth 100000
set_option autoImplicit false
set_option maxHeartbeats 4000000
namespace Dn
open PySem L2 Evl
/-! ### calls -/
section
variable {X : Cx} {a b c e : Expr} {fa fb fc : DE} {pos p : Pos} {es : List Expr} {x : Str}
structure CallD (X : Cx) (f : Value) (op : List D → (D → Prop) → Prop) : Prop where
  ex : ∃ r, CallR X f r ∧ ∀ (O : Addr → Prop) (H : Hp) (vs : List V) (ds : List D) (QD : D → Prop) (Q : VK), (∀ a, O a → H a ≠ none) → RpAll X.K (hide O H) vs ds → op ds QD →
    (∀ z v H', Ex H H' → Rp X.K (hide O H') v z → QD z → Q v H') → r vs H Q
def dCall (op : List D → (D → Prop) → Prop) (g : DA) : DE := fun ρ Q => g ρ fun ds ρ1 => op ds fun z => Q z ρ1
theorem je_callB {id : String} {op : List D → (D → Prop) → Prop} {g : DA} (hc : CallD X (.builtin id) op) (hm : X.mg x = none) (hv : bootBuiltins x = some (.builtin id)) (ha : JA X (e :: es) g) (hg : Gl X x := by rfl) (hn : x ≠ "__name__" := by decide) (hdb : (x == ("__debug__" : Str)) = false := by decide)
    (he : starEach (e :: es) X.env = (false, eval e X.env) :: starEach es X.env := by rfl) (hpl : (backTo pos (starEach es X.env)).any (·.1) = false := by rfl) : JE X (.Call (.Name x p) (e :: es) [] pos) (dCall op g) := by
  obtain ⟨r, h1, h2⟩ := hc.ex
  obtain ⟨t, pa, ka⟩ := ha.ex
  refine ⟨_, pe_callB h1 hg hm hv pa hn hdb he hpl, fun T ρ σ H QD Q r h q => ka T ρ σ H _ _ r h fun ds ρ1 vs H1 r1 p1 v1 h => ?_⟩
  exact h2 (Hd T ρ1 σ) H1 vs ds _ _ (fun a => r1.hdDom) v1 h fun z v H' e v2 h => q _ _ _ _ (r1.grow e) (p1.trans (.grow e)) v2 h
theorem je_callTy {id : String} {op : List D → (D → Prop) → Prop} {g : DA} (hc : CallD X (.type id) op) (hm : X.mg x = none) (hv : bootBuiltins x = some (.type id)) (ha : JA X (e :: es) g) (hg : Gl X x := by rfl) (hn : x ≠ "__name__" := by decide) (hdb : (x == ("__debug__" : Str)) = false := by decide)
    (he : starEach (e :: es) X.env = (false, eval e X.env) :: starEach es X.env := by rfl) (hpl : (backTo pos (starEach es X.env)).any (·.1) = false := by rfl) : JE X (.Call (.Name x p) (e :: es) [] pos) (dCall op g) := by
  obtain ⟨r, h1, h2⟩ := hc.ex
  obtain ⟨t, pa, ka⟩ := ha.ex
  refine ⟨_, pe_callTy h1 hg hm hv pa hn hdb he hpl, fun T ρ σ H QD Q r h q => ka T ρ σ H _ _ r h fun ds ρ1 vs H1 r1 p1 v1 h => ?_⟩
  exact h2 (Hd T ρ1 σ) H1 vs ds _ _ (fun a => r1.hdDom) v1 h fun z v H' e v2 h => q _ _ _ _ (r1.grow e) (p1.trans (.grow e)) v2 h
/-- an owned list is looked at: a plain value comes -/
def isSc : D → Bool
  | .list _ => false
  | .tuple _ => false
  | .dict _ => false
  | _ => true
theorem sc_rp {K : PySem.W.Frag} {G G' : Hp} {v : V} {d : D} (h : isSc d = true) (r : Rp K G v d) : Rp K G' v d := by
  cases r <;> first | (simp [isSc] at h; done) | constructor
def dCallO (i : Nat) (op : List D → (D → Prop) → Prop) : DE := fun ρ Q => match ρ[i]? with
  | some (some (.ow (.lst ds))) => op [.list ds] fun z => isSc z = true ∧ Q z ρ
  | _ => False
theorem je_callBO {i : Nat} {y : Str} {py : Pos} {id : String} {op : List D → (D → Prop) → Prop} (hc : CallD X (.builtin id) op) (hm : X.mg x = none) (hv : bootBuiltins x = some (.builtin id)) (hN : X.N[i]? = some y) (hy : Vis X.env.scope y) (hg : Gl X x := by rfl) (hn : x ≠ "__name__" := by decide) (hdb : (x == ("__debug__" : Str)) = false := by decide)
    (hd : (y == ("__debug__" : Str)) = false := by decide) (hcd : (y == ("__classdict__" : Str)) = false := by decide)
    (he : starEach [Expr.Name y py] X.env = (false, eval (Expr.Name y py) X.env) :: starEach [] X.env := by rfl) : JE X (.Call (.Name x p) [.Name y py] [] pos) (dCallO i op) := by
  obtain ⟨r, h1, h2⟩ := hc.ex
  refine ⟨_, pe_callB h1 hg hm hv (pa_cons (pe_var hN hy hd hcd) pa_nil he) hn hdb he, fun T ρ σ H QD Q r h q => ?_⟩
  unfold dCallO at h
  split at h
  · rename_i ds e1
    obtain ⟨a, o, ha, ho, hr⟩ := r.ow i _ e1
    have rf := r.freeze e1
    obtain ⟨v, hv, rv⟩ := rf.im i (.list ds) (List.getElem?_set_self (List.getElem?_eq_some_iff.mp e1).1)
    rw [ha] at hv; cases hv
    refine ⟨_, ha, h2 _ H _ _ _ _ (fun a => rf.hdDom) (.cons rv .nil) h fun z v H' e v2 h => ?_⟩
    exact q _ _ _ _ (r.grow e) (.grow e) (sc_rp h.1 v2) h.2
  · exact False.elim h
def dBinO (i : Nat) (op : D → D → (D → Prop) → Prop) (fb : DE) : DE := fun ρ Q => (∃ m, ρ[i]? = some (some (SV.ow m))) ∧ fb ρ fun y ρ1 => match ρ1[i]? with
  | some (some (.ow (.lst ds))) => op (.list ds) y fun z => isSc z = true ∧ Q z ρ1
  | _ => False
theorem hd_freeze {T : Addr → Prop} {ρ : Env} {σ : L2.St} {H : Hp} {i : Nat} {d : D} : Ex (hide (Hd T ρ σ) H) (hide (Hd T (ρ.set i (some (SV.im d))) σ) H) := hide_sub fun a w => w.elim .inl fun w => .inr (own_freeze w)
theorem two_O {op : D → D → (D → Prop) → Prop} {i : Nat} {y : Str} {py : Pos} {r : R2} (hN : X.N[i]? = some y) (hy : Vis X.env.scope y) (hd : (y == ("__debug__" : Str)) = false := by decide) (hcd : (y == ("__classdict__" : Str)) = false := by decide)
    (hr : ∀ (O : Addr → Prop) (H : Hp) (x y : V) (d e : D) (QD : D → Prop) (Q : VK), (∀ a, O a → H a ≠ none) → Rp X.K (hide O H) x d → Rp X.K (hide O H) y e → op d e QD → (∀ z v H', Ex H H' → Rp X.K (hide O H') v z → QD z → Q v H') → r x y H Q)
    (hb : JE X b fb) (he : ∀ ta tb, PE X (.Name y py) ta → PE X b tb → PE X e (tOp r ta tb)) : JE X e (dBinO i op fb) := by
  obtain ⟨tb, pb, kb⟩ := hb.ex
  refine ⟨_, he _ tb (pe_var hN hy hd hcd) pb, fun T ρ σ H QD Q r h q => ?_⟩
  obtain ⟨⟨m, hm⟩, h⟩ := h
  obtain ⟨a, o, ha, _, _⟩ := r.ow i m hm
  refine ⟨_, ha, kb T ρ σ H _ _ r h fun y ρ1 v H1 r1 p1 v1 h => ?_⟩
  split at h
  · rename_i ds e1
    have rf := r1.freeze e1
    obtain ⟨u, hu, ru⟩ := rf.im i (.list ds) (List.getElem?_set_self (List.getElem?_eq_some_iff.mp e1).1)
    rw [ha] at hu; cases hu
    exact hr _ H1 _ _ _ _ _ _ (fun a => rf.hdDom) ru (v1.mono hd_freeze) h fun z w H' e v2 h => q _ _ _ _ (r1.grow e) (p1.trans (.grow e)) (sc_rp h.1 v2) h.2
  · exact False.elim h
theorem je_cmpO {op : D → D → (D → Prop) → Prop} {i : Nat} {y : Str} {py : Pos} {o : CmpOp} (ho : OpD X (compareOp o) op) (hN : X.N[i]? = some y) (hy : Vis X.env.scope y) (hb : JE X b fb) (hm : behindInMarks o b = false)
    (hd : (y == ("__debug__" : Str)) = false := by decide) (hcd : (y == ("__classdict__" : Str)) = false := by decide) : JE X (.Compare (.Name y py) [o] [b] pos) (dBinO i op fb) := by
  obtain ⟨r, h1, h2⟩ := ho.ex
  exact two_O hN hy hd hcd h2 hb fun _ _ pa pb => pe_cmpR h1 pa pb hm

/-! ### built-ins -/
def dLen : List D → (D → Prop) → Prop
  | [d] => fun Q => match seqD d with
    | some ds => Q (.int ds.length)
    | none => False
  | _ => fun _ => False
theorem calld_len : CallD X (.builtin "len") dLen := by
  refine ⟨_, call_len_seq, fun O H vs ds QD Q hO r h k => ?_⟩
  cases r with
  | nil => exact False.elim h
  | cons r rr =>
    cases rr with
    | cons _ _ => exact False.elim h
    | nil =>
      unfold dLen at h; dsimp only at h
      split at h
      · rename_i ds e
        obtain ⟨p, xs, rfl, hs, rx⟩ := seq_rp r e
        exact ⟨_, _, rfl, hs, k _ _ H (.refl H) (.int _) (by rw [rx.length]; exact h)⟩
      · exact False.elim h
def dAbs : List D → (D → Prop) → Prop
  | [.int i] => fun Q => Q (.int (if i < 0 then -i else i))
  | _ => fun _ => False
theorem rp1 {K : PySem.W.Frag} {G : Hp} {vs : List V} {d : D} (r : RpAll K G vs [d]) : ∃ v, vs = [v] ∧ Rp K G v d := by
  cases r with
  | cons r rr => cases rr; exact ⟨_, rfl, r⟩
theorem rp2 {K : PySem.W.Frag} {G : Hp} {vs : List V} {d e : D} (r : RpAll K G vs [d, e]) : ∃ v u, vs = [v, u] ∧ Rp K G v d ∧ Rp K G u e := by
  cases r with
  | cons r rr => obtain ⟨u, rfl, h⟩ := rp1 rr; exact ⟨_, _, rfl, r, h⟩
theorem calld_abs : CallD X (.builtin "abs") dAbs := by
  refine ⟨_, call_abs, fun O H vs ds QD Q hO r h k => ?_⟩
  unfold dAbs at h
  split at h
  · obtain ⟨v, rfl, w1⟩ := rp1 r
    cases w1
    exact ⟨_, rfl, k _ _ H (.refl H) (.int _) h⟩
  · exact False.elim h
def dMax2 : List D → (D → Prop) → Prop
  | [.int i, .int j] => fun Q => Q (.int (if j > i then j else i))
  | _ => fun _ => False
theorem calld_max2 (hc : X.calm = true) : CallD X (.builtin "max") dMax2 := by
  refine ⟨_, call_max2 hc, fun O H vs ds QD Q hO r h k => ?_⟩
  unfold dMax2 at h
  split at h
  · obtain ⟨v, u, rfl, r1, r2⟩ := rp2 r
    cases r1; cases r2
    exact ⟨_, _, rfl, k _ _ H (.refl H) (.int _) h⟩
  · exact False.elim h
def dMin2 : List D → (D → Prop) → Prop
  | [.int i, .int j] => fun Q => Q (.int (if j < i then j else i))
  | _ => fun _ => False
theorem calld_min2 (hc : X.calm = true) : CallD X (.builtin "min") dMin2 := by
  refine ⟨_, call_min2 hc, fun O H vs ds QD Q hO r h k => ?_⟩
  unfold dMin2 at h
  split at h
  · obtain ⟨v, u, rfl, r1, r2⟩ := rp2 r
    cases r1; cases r2
    exact ⟨_, _, rfl, k _ _ H (.refl H) (.int _) h⟩
  · exact False.elim h
def dInt : List D → (D → Prop) → Prop
  | [.int i] => fun Q => Q (.int i)
  | [.bool b] => fun Q => Q (.int (if b then 1 else 0))
  | _ => fun _ => False
theorem calld_int : CallD X (.type "int") dInt := by
  refine ⟨_, call_int1, fun O H vs ds QD Q hO r h k => ?_⟩
  unfold dInt at h
  split at h
  · obtain ⟨v, rfl, w1⟩ := rp1 r
    cases w1
    exact .inl ⟨_, rfl, k _ _ H (.refl H) (.int _) h⟩
  · obtain ⟨v, rfl, w1⟩ := rp1 r
    cases w1
    exact .inr ⟨_, rfl, k _ _ H (.refl H) (.int _) h⟩
  · exact False.elim h
def dAll (ds : List D) (Q : D → Prop) : Prop := ∃ bs : List Bool, ds = [.list (bs.map PyData.bool)] ∧ Q (.bool (bs.all id))
def dAny (ds : List D) (Q : D → Prop) : Prop := ∃ bs : List Bool, ds = [.list (bs.map PyData.bool)] ∧ Q (.bool (bs.any id))
def dSum (ds : List D) (Q : D → Prop) : Prop := ∃ ns : List Int, ds = [.list (ns.map PyData.int)] ∧ Q (.int ns.sum)
theorem calld_all (hc : X.calm = true) : CallD X (.builtin "all") dAll := by
  refine ⟨_, cr_all hc, fun O H vs ds QD Q hO r h k => ?_⟩
  obtain ⟨bs, rfl, h⟩ := h
  obtain ⟨v, rfl, w1⟩ := rp1 r
  cases w1 with
  | lst hp rr =>
    obtain rfl := rr.of_bls
    exact ⟨_, bs, rfl, .inl (.inl (at_of hp)), k _ _ H (.refl H) (.bl _) h⟩
theorem calld_any (hc : X.calm = true) : CallD X (.builtin "any") dAny := by
  refine ⟨_, cr_any hc, fun O H vs ds QD Q hO r h k => ?_⟩
  obtain ⟨bs, rfl, h⟩ := h
  obtain ⟨v, rfl, w1⟩ := rp1 r
  cases w1 with
  | lst hp rr =>
    obtain rfl := rr.of_bls
    exact ⟨_, bs, rfl, .inl (.inl (at_of hp)), k _ _ H (.refl H) (.bl _) h⟩
theorem calld_sum (hc : X.calm = true) : CallD X (.builtin "sum") dSum := by
  refine ⟨_, cr_sum hc, fun O H vs ds QD Q hO r h k => ?_⟩
  obtain ⟨bs, rfl, h⟩ := h
  obtain ⟨v, rfl, w1⟩ := rp1 r
  cases w1 with
  | lst hp rr =>
    obtain rfl := rr.of_ints
    exact ⟨_, bs, rfl, .inl (.inl (at_of hp)), k _ _ H (.refl H) (.int _) h⟩
def dTupOf : List D → (D → Prop) → Prop
  | [.list ds] => fun Q => Q (.tuple ds)
  | [.tuple ds] => fun Q => Q (.tuple ds)
  | _ => fun _ => False
theorem calld_tuple : CallD X (.type "tuple") dTupOf := by
  refine ⟨_, call_tuple_of, fun O H vs ds QD Q hO r h k => ?_⟩
  unfold dTupOf at h
  split at h
  · obtain ⟨v, rfl, w1⟩ := rp1 r
    cases w1 with
    | lst hp rr => exact ⟨_, _, rfl, .inl ⟨.inl (.inl (at_of hp)), fun l hl => k _ _ _ (Ex.new hl) (rp_newT hO hl rr) h⟩⟩
  · obtain ⟨v, rfl, w1⟩ := rp1 r
    cases w1 with
    | tup hp rr => exact ⟨_, _, rfl, .inr ⟨sqt_of hp, k _ _ H (.refl H) (.tup hp rr) h⟩⟩
  · exact False.elim h
/-- isinstance -/
def tyN : D → String
  | .none => "NoneType"
  | .bool _ => "bool"
  | .int _ => "int"
  | .str _ => "str"
  | .list _ => "list"
  | .tuple _ => "tuple"
  | .dict ((.none, _) :: _) => "list"
  | .dict _ => "dict"
theorem tyN_dk (kvs : List (Key × D)) : tyN (.dict (dkD kvs)) = "dict" := by
  cases kvs with
  | nil => rfl
  | cons p r => obtain ⟨k, d⟩ := p; cases k <;> rfl
theorem ty_rp {K : PySem.W.Frag} {O : Addr → Prop} {H : Hp} {v : V} {d : D} (r : Rp K (hide O H) v d) : TyX K H v (.type (tyN d)) := by
  cases r with
  | non => exact .base .non
  | bl b => exact .base (.bl b)
  | int b => exact .base (.int b)
  | str b => exact .base (.str b)
  | lst h _ => exact .base (.lst (at_of h))
  | dct h _ z => subst z; rw [tyN_dk]; exact .base (.dK (at_of h))
  | tup h _ =>
    rcases sqt_of h with (h | ⟨o, h⟩) | ⟨o, its, n, h1, h2, _⟩
    · exact .base (.tup h)
    · exact .fTuple h
    · exact .kTuple h1 h2
  | frz h _ =>
    rcases sql_of h with (h | ⟨o, h⟩) | ⟨o, its, n, h1, h2, _⟩
    · exact .base (.lst h)
    · exact .base (.frz h)
    · exact .kList h1 h2
def dIsi (tn : String) (fa : DE) : DE := fun ρ Q => fa ρ fun d ρ1 => match kitB (tyN d) tn with
  | some b => Q (.bool b) ρ1
  | none => False
theorem je_isi {tn : String} {y : Str} {py : Pos} (hm : X.mg "isinstance" = none) (hmy : X.mg y = none) (hvy : bootBuiltins y = some (.type tn)) (ha : JE X a fa) (hg : Gl X "isinstance" := by rfl) (hgy : Gl X y := by rfl) (hny : y ≠ "__name__" := by decide) (hdb : (y == ("__debug__" : Str)) = false := by decide)
    (h1 : starEach [a, Expr.Name y py] X.env = (false, eval a X.env) :: starEach [Expr.Name y py] X.env := by rfl) (h2 : starEach [Expr.Name y py] X.env = (false, eval (Expr.Name y py) X.env) :: starEach [] X.env := by rfl) (h3 : (backTo pos (starEach [Expr.Name y py] X.env)).any (·.1) = false := by rfl) :
    JE X (.Call (.Name "isinstance" p) [a, .Name y py] [] pos) (dIsi tn fa) := by
  obtain ⟨ta, pa, ka⟩ := ha.ex
  refine ⟨_, pe_callB call_isi hg hm (by decide +kernel) (pa_cons pa (pa_cons (pe_bltn (v := .ty tn) hgy hmy hvy rfl hny hdb) pa_nil h2) h1) (by decide) (by decide) h1 h3, fun T ρ σ H QD Q r h q => ka T ρ σ H _ _ r h fun d ρ1 v H1 r1 p1 v1 h => ?_⟩
  split at h
  · rename_i b e
    exact ⟨v, .ty tn, .type (tyN d), .type tn, b, rfl, .ty tn, ty_rp v1, kit_ty e, q _ _ _ _ r1 p1 (.bl b) h⟩
  · exact False.elim h
/-- new lists -/
def lOf (f : DE) : DL := fun ρ Q => f ρ fun d ρ1 => match seqD d with
  | some ds => Q ds ρ1
  | none => False
theorem none_back {ρ ρ' : Env} {σ σ' : L2.St} {H H' : Hp} {l : Addr} (q : Po ρ σ H ρ' σ' H') (h : H' l = none) : H l = none := by
  cases z : H l with
  | none => rfl
  | some o => exact absurd h (q.dom l (by rw [z]; simp))
theorem jl_list (hm : X.mg "list" = none) (ha : JE X a fa) (hg : Gl X "list" := by rfl) (he : starEach [a] X.env = (false, eval a X.env) :: starEach [] X.env := by rfl) : JL X (.Call (.Name "list" p) [a] [] pos) (lOf fa) := by
  obtain ⟨ta, pa, ka⟩ := ha.ex
  refine ⟨_, pe_callTy call_list_of hg hm (by decide +kernel) (pa_cons pa pa_nil he) (by decide) (by decide) he, fun T ρ σ H QD Q r h q => ka T ρ σ H _ _ r h fun d ρ1 v H1 r1 p1 v1 h => ?_⟩
  split at h
  · rename_i ds e
    obtain ⟨p, xs, rfl, hs, rx⟩ := seq_rp v1 e
    exact ⟨_, _, rfl, hs, fun l hl => q _ _ _ _ _ (none_back p1 hl) upd_same (r1.laid hl) (rx.mono (hd_laid hl)) (p1.trans (.grow (Ex.new hl))) h⟩
  · exact False.elim h
/-- list(x), tuple(x) of an owned list x -/
def lOfO (i : Nat) : DL := fun ρ Q => match ρ[i]? with
  | some (some (.ow (.lst ds))) => Q ds ρ
  | _ => False
theorem jl_listO {i : Nat} {y : Str} {py : Pos} (hm : X.mg "list" = none) (hN : X.N[i]? = some y) (hy : Vis X.env.scope y) (hg : Gl X "list" := by rfl) (hd : (y == ("__debug__" : Str)) = false := by decide) (hcd : (y == ("__classdict__" : Str)) = false := by decide)
    (he : starEach [Expr.Name y py] X.env = (false, eval (Expr.Name y py) X.env) :: starEach [] X.env := by rfl) : JL X (.Call (.Name "list" p) [.Name y py] [] pos) (lOfO i) := by
  refine ⟨_, pe_callTy call_list_of hg hm (by decide +kernel) (pa_cons (pe_var hN hy hd hcd) pa_nil he) (by decide) (by decide) he, fun T ρ σ H QD Q r h q => ?_⟩
  unfold lOfO at h
  split at h
  · rename_i ds e
    obtain ⟨a, o, ha, ho, hr⟩ := r.ow i _ e
    cases o with
    | lst vs => exact ⟨_, ha, _, _, rfl, .inl (.inl (.inl ho)), fun l hl => q _ _ _ _ _ hl upd_same (r.laid hl) (RpAll.mono (hd_laid hl) hr) (.grow (Ex.new hl)) h⟩
    | _ => exact False.elim hr
  · exact False.elim h
def dTupO (i : Nat) : DE := fun ρ Q => match ρ[i]? with
  | some (some (.ow (.lst ds))) => Q (.tuple ds) ρ
  | _ => False
theorem je_tupleO {i : Nat} {y : Str} {py : Pos} (hm : X.mg "tuple" = none) (hN : X.N[i]? = some y) (hy : Vis X.env.scope y) (hg : Gl X "tuple" := by rfl) (hd : (y == ("__debug__" : Str)) = false := by decide) (hcd : (y == ("__classdict__" : Str)) = false := by decide)
    (he : starEach [Expr.Name y py] X.env = (false, eval (Expr.Name y py) X.env) :: starEach [] X.env := by rfl) : JE X (.Call (.Name "tuple" p) [.Name y py] [] pos) (dTupO i) := by
  refine ⟨_, pe_callTy call_tuple_of hg hm (by decide +kernel) (pa_cons (pe_var hN hy hd hcd) pa_nil he) (by decide) (by decide) he, fun T ρ σ H QD Q r h q => ?_⟩
  unfold dTupO at h
  split at h
  · rename_i ds e
    obtain ⟨a, o, ha, ho, hr⟩ := r.ow i _ e
    cases o with
    | lst vs => exact ⟨_, ha, _, _, rfl, .inl ⟨.inl (.inl ho), fun l hl => q _ _ _ _ (r.grow (Ex.new hl)) (.grow (Ex.new hl)) (rp_newT (fun a => r.hdDom) hl hr) h⟩⟩
    | _ => exact False.elim hr
  · exact False.elim h
/-- ranges -/
def rgD (i j : Int) : List D := (List.range (j - i).toNat).map fun k => PyData.int (i + (k : Nat))
def RgD (i j : Int) : Prop := -1000000 ≤ i ∧ i ≤ 1000000 ∧ -1000000 ≤ j ∧ j ≤ 1000000
theorem rg_ok {i j : Int} (h : RgD i j) : RgOk i j := by unfold RgD at h; exact ⟨by omega, by omega, by omega, by omega, by omega⟩
theorem rg_rp {K : PySem.W.Frag} {G : Hp} (i j : Int) : RpAll K G (rgV i j) (rgD i j) := by
  have : rgV i j = ((List.range (j - i).toNat).map fun k => i + (k : Nat)).map V.int := by unfold rgV; simp
  rw [this, show rgD i j = ((List.range (j - i).toNat).map fun k => i + (k : Nat)).map PyData.int from by unfold rgD; simp]
  exact RpAll.ints _
abbrev DR := Env → (Int → Int → Env → Prop) → Prop
structure JR (X : Cx) (e : Expr) (f : DR) : Prop where
  ex : ∃ t, PRg X e t ∧ ∀ (T : Addr → Prop) (ρ : Env) (σ : L2.St) (H : Hp) (QD : Int → Int → Env → Prop) (Q : Int → Int → Hp → Prop), RS X.K T ρ σ H → f ρ QD →
    (∀ i j ρ' H', RS X.K T ρ' σ H' → Po ρ σ H ρ' σ H' → QD i j ρ' → Q i j H') → t σ H Q
def rg1 (fa : DE) : DR := fun ρ Q => fa ρ fun d ρ1 => match d with
  | .int n => Q 0 n ρ1
  | _ => False
def rg2 (fa fb : DE) : DR := fun ρ Q => fa ρ fun d ρ1 => fb ρ1 fun e ρ2 => match d, e with
  | .int n, .int m => Q n m ρ2
  | _, _ => False
theorem jr_1 (hm : X.mg "range" = none) (ha : JE X a fa) (hg : Gl X "range" := by rfl) (na : starEach [a] X.env = (false, eval a X.env) :: starEach [] X.env := by rfl) : JR X (.Call (.Name "range" p) [a] [] pos) (rg1 fa) := by
  obtain ⟨ta, pa, ka⟩ := ha.ex
  refine ⟨_, prg_1 hg hm pa na, fun T ρ σ H QD Q r h q => ka T ρ σ H _ _ r h fun d ρ1 v H1 r1 p1 v1 h => ?_⟩
  cases v1 with
  | int n => exact ⟨n, rfl, q _ _ _ _ r1 p1 h⟩
  | _ => exact False.elim h
theorem jr_2 (hm : X.mg "range" = none) (ha : JE X a fa) (hb : JE X b fb) (hg : Gl X "range" := by rfl) (na : starEach [a, b] X.env = (false, eval a X.env) :: starEach [b] X.env := by rfl) (nb : starEach [b] X.env = (false, eval b X.env) :: starEach [] X.env := by rfl) (hpl : (backTo pos (starEach [b] X.env)).any (·.1) = false := by rfl) :
    JR X (.Call (.Name "range" p) [a, b] [] pos) (rg2 fa fb) := by
  obtain ⟨ta, pa, ka⟩ := ha.ex
  obtain ⟨tb, pb, kb⟩ := hb.ex
  refine ⟨_, prg_2 hg hm pa pb na nb hpl, fun T ρ σ H QD Q r h q => ka T ρ σ H _ _ r h fun d ρ1 v H1 r1 p1 v1 h => kb T ρ1 σ H1 _ _ r1 h fun e ρ2 u H2 r2 p2 v2 h => ?_⟩
  cases v1 <;> cases v2 <;> first | exact False.elim h | exact ⟨_, _, rfl, rfl, q _ _ _ _ r2 (p1.trans p2) h⟩
def lRg (f : DR) : DL := fun ρ Q => f ρ fun i j ρ1 => RgD i j ∧ Q (rgD i j) ρ1
def dTRg (f : DR) : DE := fun ρ Q => f ρ fun i j ρ1 => RgD i j ∧ Q (.tuple (rgD i j)) ρ1
theorem jl_rg {f : DR} (hc : X.calm = true) (hm : X.mg "list" = none) (ha : JR X a f) (hg : Gl X "list" := by rfl) (na : starEach [a] X.env = (false, eval a X.env) :: starEach [] X.env := by rfl) : JL X (.Call (.Name "list" p) [a] [] pos) (lRg f) := by
  obtain ⟨ta, pa, ka⟩ := ha.ex
  refine ⟨_, pe_listRg hc hg hm pa na, fun T ρ σ H QD Q r h q => ka T ρ σ H _ _ r h fun i j ρ1 H1 r1 p1 h => ⟨rg_ok h.1, fun l hl => ?_⟩⟩
  exact q _ _ _ _ _ (none_back p1 hl) upd_same (r1.laid hl) (rg_rp i j) (p1.trans (.grow (Ex.new hl))) h.2
theorem je_tupRg {f : DR} (hc : X.calm = true) (hm : X.mg "tuple" = none) (ha : JR X a f) (hg : Gl X "tuple" := by rfl) (na : starEach [a] X.env = (false, eval a X.env) :: starEach [] X.env := by rfl) : JE X (.Call (.Name "tuple" p) [a] [] pos) (dTRg f) := by
  obtain ⟨ta, pa, ka⟩ := ha.ex
  refine ⟨_, pe_tupRg hc hg hm pa na, fun T ρ σ H QD Q r h q => ka T ρ σ H _ _ r h fun i j ρ1 H1 r1 p1 h => ⟨rg_ok h.1, fun l hl => ?_⟩⟩
  exact q _ _ _ _ (r1.grow (Ex.new hl)) (p1.trans (.grow (Ex.new hl))) (rp_newT (fun a => r1.hdDom) hl (rg_rp i j)) h.2
end
end Dn
set_option Elab.async false
set_option linter.all false
set_option maxRecDepth 100000
set_option autoImplicit false
set_option maxHeartbeats 4000000
namespace Dn
open PySem L2 Evl
/-! ### targets -/
structure JG (X : Cx) (tg : Expr) (vs : List Nat) (g : DG) : Prop where
  ex : ∃ t, PG X tg t ∧ ∀ (T : Addr → Prop) (ρ : Env) (σ : L2.St) (H : Hp) (v : V) (d : D) (QD : Env → Prop) (Q : L2.St → Hp → Prop), RS X.K T ρ σ H → Rp X.K (hide (Hd T ρ σ) H) v d → g d ρ QD →
    (∀ ρ' σ', RS X.K T ρ' σ' H → Po ρ σ H ρ' σ' H → wipe σ' vs = wipe σ vs → QD ρ' → Q σ' H) → t v σ H Q
structure JGs (X : Cx) (tgs : List Expr) (vs : List Nat) (g : List D → Env → (Env → Prop) → Prop) : Prop where
  ex : ∃ t, PGs X tgs t ∧ ∀ (T : Addr → Prop) (ρ : Env) (σ : L2.St) (H : Hp) (us : List V) (ds : List D) (QD : Env → Prop) (Q : L2.St → Hp → Prop), RS X.K T ρ σ H → RpAll X.K (hide (Hd T ρ σ) H) us ds → g ds ρ QD →
    (∀ ρ' σ', RS X.K T ρ' σ' H → Po ρ σ H ρ' σ' H → wipe σ' vs = wipe σ vs → QD ρ' → Q σ' H) → t us σ H Q
theorem wipe_set (σ : L2.St) (v : Option V) : ∀ (vs : List Nat) (i : Nat), i ∈ vs → wipe (σ.set i v) vs = wipe σ vs
  | [], i, h => by cases h
  | j :: vs, i, h => by
    show (wipe (σ.set i v) vs).set j none = (wipe σ vs).set j none
    by_cases e : i ∈ vs
    · rw [wipe_set σ v vs i e]
    · have : i = j := by rcases List.mem_cons.mp h with h | h; exact h; exact absurd h e
      subst this
      have aux : ∀ (ws : List Nat), i ∉ ws → wipe (σ.set i v) ws = (wipe σ ws).set i v := by
        intro ws
        induction ws with
        | nil => intro _; rfl
        | cons k ws ih =>
          intro hn
          show (wipe (σ.set i v) ws).set k none = ((wipe σ ws).set k none).set i v
          rw [ih (fun z => hn (List.mem_cons_of_mem _ z)), List.set_comm _ _ (fun z => hn (by rw [z]; exact List.mem_cons_self))]
      rw [aux vs e, List.set_set]
section
variable {X : Cx} {a b c e : Expr} {fa fb fc : DE} {pos p : Pos} {es : List Expr} {x : Str}
def gNm (i : Nat) : DG := fun d ρ Q => Q (ρ.set i (some (.im d)))
theorem jg_name {i : Nat} {vs : List Nat} (hN : X.N.Nodup) (hi : X.N[i]? = some x) (hx : Loc X.env.scope x) (hv : i ∈ vs := by decide) (hf : X.fn x = true ∨ X.env.scope.names.lookup x = some .local := by first | exact .inl rfl | exact .inr rfl | assumption) : JG X (.Name x pos) vs (gNm i) :=
  ⟨gName i, pg_name hN hi hx hf, fun T ρ σ H v d QD Q r rv h q => q _ _ (r.setIm rv) .setIm (wipe_set σ _ vs i hv) h⟩
def gsNil : List D → Env → (Env → Prop) → Prop := fun ds ρ Q => ds = [] ∧ Q ρ
def gsCons (g : DG) (gs : List D → Env → (Env → Prop) → Prop) : List D → Env → (Env → Prop) → Prop := fun ds ρ Q => match ds with
  | d :: ds => g d ρ fun ρ1 => gs ds ρ1 Q
  | [] => False
theorem jgs_nil {vs : List Nat} : JGs X [] vs gsNil := ⟨gNil, pgs_nil, fun T ρ σ H us ds QD Q r rv h q => by
  obtain ⟨rfl, h⟩ := h
  cases rv
  exact ⟨rfl, q _ _ r .refl rfl h⟩⟩
theorem jgs_cons {g : DG} {gs : List D → Env → (Env → Prop) → Prop} {vs : List Nat} (h1 : JG X e vs g) (h2 : JGs X es vs gs) (hs : (assignEach (e :: es) X.env).map (·.2) = assign e X.env :: (assignEach es X.env).map (·.2) := by rfl) : JGs X (e :: es) vs (gsCons g gs) := by
  obtain ⟨t1, p1, k1⟩ := h1.ex
  obtain ⟨t2, p2, k2⟩ := h2.ex
  refine ⟨_, pgs_cons p1 p2 hs, fun T ρ σ H us ds QD Q r rv h q => ?_⟩
  cases rv with
  | nil => exact False.elim h
  | cons rv rr => exact ⟨_, _, rfl, k1 T ρ σ H _ _ _ _ r rv h fun ρ1 σ1 r1 q1 w1 h => k2 T ρ1 σ1 H _ _ _ _ r1 (rr.mono q1.fz) h fun ρ2 σ2 r2 q2 w2 h => q _ _ r2 (q1.trans q2) (w2.trans w1) h⟩
def gTp (n : Nat) (gs : List D → Env → (Env → Prop) → Prop) : DG := fun d ρ Q => match d with
  | .tuple ds => ds.length = n ∧ gs ds ρ Q
  | _ => False
theorem jg_tup {k n : Nat} {gs : List D → Env → (Env → Prop) → Prop} {vs : List Nat} (hc : X.calm = true) (h : JGs X es vs gs) (hn : (assignEach es X.env).length = n := by rfl) (hst : (assignEach es X.env).findIdx? (·.1) = none := by rfl) : JG X (.Tuple es k pos) vs (gTp n gs) := by
  obtain ⟨t, pt, kt⟩ := h.ex
  refine ⟨_, pg_tup hc pt hn hst, fun T ρ σ H v d QD Q r rv h q => ?_⟩
  cases rv with
  | tup hp rr => exact ⟨_, _, rfl, sqt_of hp, by rw [rr.length]; exact h.1, kt T ρ σ H _ _ _ _ r rr h.2 q⟩
  | _ => exact False.elim h

/-! ### statements -/
def sNx : DS := fun E ρ => E.nx ρ
def sSeq (f g : DS) : DS := fun E ρ => f { E with nx := g E } ρ
theorem js_nil : JSs X [] sNx := ⟨tNext, pss_nil, fun T ρ σ H E D r h k => k.nx _ _ _ r .refl h⟩
theorem js_cons {st : Stmt} {sts : List Stmt} {f g : DS} (h1 : JS X st f) (h2 : JSs X sts g) : JSs X (st :: sts) (sSeq f g) := by
  obtain ⟨t1, p1, k1⟩ := h1.ex
  obtain ⟨t2, p2, k2⟩ := h2.ex
  refine ⟨_, pss_cons p1 p2, fun T ρ σ H E D r h k => ?_⟩
  exact k1 T ρ σ H _ _ r h ⟨fun ρ1 σ1 H1 r1 q1 h1 => k2 T ρ1 σ1 H1 E D r1 h1 (k.step q1), k.rt, k.bk, k.ct⟩
theorem js_one {st : Stmt} {f : DS} (h1 : JS X st f) : JSs X [st] f := by
  obtain ⟨t1, p1, k1⟩ := h1.ex
  refine ⟨_, pss_cons p1 pss_nil, fun T ρ σ H E D r h k => ?_⟩
  exact k1 T ρ σ H E _ r h ⟨k.nx, k.rt, k.bk, k.ct⟩
theorem js_pass : JS X (.Pass pos) sNx := ⟨tNext, ps_pass, fun T ρ σ H E D r h k => k.nx _ _ _ r .refl h⟩
def sBk : DS := fun E ρ => E.bk ρ
def sCt : DS := fun E ρ => E.ct ρ
theorem js_break : JS X (.Break pos) sBk := ⟨_, ps_break, fun T ρ σ H E D r h k => k.bk _ _ _ r .refl h⟩
theorem js_continue : JS X (.Continue pos) sCt := ⟨_, ps_continue, fun T ρ σ H E D r h k => k.ct _ _ _ r .refl h⟩
def sNever : DS := fun _ _ => False
theorem js_never {st : Stmt} : JS X st sNever := ⟨_, ps_never, fun T ρ σ H E D r h k => h.elim⟩
theorem jss_never {st : List Stmt} : JSs X st sNever := ⟨_, pss_never, fun T ρ σ H E D r h k => h.elim⟩
def sEx (f : DE) : DS := fun E ρ => f ρ fun _ ρ1 => E.nx ρ1
theorem js_expr (ha : JE X e fa) (hs : swapsWith e none pos.line X.env = pure false := by rfl) : JS X (.Expr e pos) (sEx fa) := by
  obtain ⟨t, pt, kt⟩ := ha.ex
  exact ⟨_, ps_expr pt hs, fun T ρ σ H E D r h k => kt T ρ σ H _ _ r h fun d ρ1 v H1 r1 p1 v1 h => k.nx _ _ _ r1 p1 h⟩
def sRet (f : DE) : DS := fun E ρ => f ρ E.rt
theorem js_ret (ha : JE X e fa) : JS X (.Return (some e) pos) (sRet fa) := by
  obtain ⟨t, pt, kt⟩ := ha.ex
  exact ⟨_, ps_ret pt, fun T ρ σ H E D r h k => kt T ρ σ H _ _ r h fun d ρ1 v H1 r1 p1 v1 h => k.rt _ _ _ _ _ r1 p1 v1 h⟩
def sRetN : DS := fun E ρ => E.rt .none ρ
theorem js_retN : JS X (.Return none pos) sRetN := ⟨_, ps_retN, fun T ρ σ H E D r h k => k.rt _ _ _ _ _ r .refl .non h⟩
/-- return x, x an owned list -/
def sRetO (i : Nat) : DS := fun E ρ => match ρ[i]? with
  | some (some (.ow (.lst ds))) => E.rt (.list ds) (ρ.set i (some (.im (.list ds))))
  | _ => False
theorem js_retO {i : Nat} {px : Pos} (hN : X.N[i]? = some x) (hv : Vis X.env.scope x) (hd : (x == ("__debug__" : Str)) = false := by decide) (hcd : (x == ("__classdict__" : Str)) = false := by decide) : JS X (.Return (some (.Name x px)) pos) (sRetO i) := by
  refine ⟨_, ps_ret (pe_var hN hv hd hcd), fun T ρ σ H E D r h k => ?_⟩
  unfold sRetO at h
  split at h
  · rename_i ds e1
    have rf := r.freeze e1
    obtain ⟨v, hv, rv⟩ := rf.im i (.list ds) (List.getElem?_set_self (List.getElem?_eq_some_iff.mp e1).1)
    exact ⟨v, hv, k.rt _ _ _ _ _ rf .freeze rv h⟩
  · exact False.elim h
def sIf (c : DT) (f g : DS) : DS := fun E ρ => c ρ fun b ρ1 => if b = true then f E ρ1 else g E ρ1
theorem js_if {g : DT} {sa sb : List Stmt} {f1 f2 : DS} (hc : JT X c g) (h1 : JSs X sa f1) (h2 : JSs X sb f2) : JS X (.If c sa sb pos) (sIf g f1 f2) := by
  obtain ⟨tc, pc, kc⟩ := hc.ex
  obtain ⟨t1, p1, k1⟩ := h1.ex
  obtain ⟨t2, p2, k2⟩ := h2.ex
  refine ⟨_, ps_if pc p1 p2, fun T ρ σ H E D r h k => kc T ρ σ H _ _ r h fun b ρ1 H1 r1 q1 h => ?_⟩
  cases b with
  | true => exact k1 T ρ1 σ H1 E D r1 h (k.step q1)
  | false => exact k2 T ρ1 σ H1 E D r1 h (k.step q1)
/-- a name is stored -/
def sSet (i : Nat) (f : DX) : DS := fun E ρ => f ρ fun sv ρ1 => E.nx (ρ1.set i (some sv))
theorem fits_set {K : PySem.W.Frag} {T : Addr → Prop} {ρ ρ0 : Env} {σ : L2.St} {H0 H : Hp} {v : V} {sv : SV} {i : Nat} (r0 : RS K T ρ0 σ H0) (q : Po ρ0 σ H0 ρ σ H) (h : Fits K T ρ σ H0 H v sv) : RS K T (ρ.set i (some sv)) (σ.set i (some v)) H ∧ Po ρ0 σ H0 (ρ.set i (some sv)) (σ.set i (some v)) H := by
  cases sv with
  | im d => exact ⟨h.1.setIm h.2, q.trans .setIm⟩
  | ow m =>
    obtain ⟨p, o, rfl, hn, ho, r, rr, np⟩ := h
    exact ⟨r.setOw ho rr (fun t => r0.dom p t hn) fun _ _ z => (np _ _ z).elim, q.setOw hn⟩
theorem js_set {i : Nat} {f : DX} {px : Pos} (he : JX X e f) (hN : X.N.Nodup) (hi : X.N[i]? = some x) (hx : Loc X.env.scope x) (hs : swapsWith e (some (.Name x px)) pos.line X.env = pure false := by rfl) (hf : X.fn x = true ∨ X.env.scope.names.lookup x = some .local := by first | exact .inl rfl | exact .inr rfl | assumption) : JS X (.Assign [.Name x px] e pos) (sSet i f) := by
  obtain ⟨t, pt, kt⟩ := he.ex
  refine ⟨_, ps_set hN hi hx pt hs hf, fun T ρ σ H E D r h k => kt T ρ σ H _ _ r h fun sv ρ1 v H1 fi q1 h => ?_⟩
  obtain ⟨r2, q2⟩ := fits_set (i := i) r q1 fi
  exact k.nx _ _ _ r2 q2 h
/-- any target -/
def sAsg (f : DE) (g : DG) : DS := fun E ρ => f ρ fun d ρ1 => g d ρ1 E.nx
theorem js_asg {tg : Expr} {g : DG} {vs : List Nat} (ha : JE X e fa) (hg : JG X tg vs g) (hs : swapsWithSole [tg] e pos.line X.env = pure false := by rfl) (hw : swappedStores [tg] e X.env = pure none := by rfl) (h1 : (assignEach [tg] X.env).map (·.2) = [assign tg X.env] := by rfl) : JS X (.Assign [tg] e pos) (sAsg fa g) := by
  obtain ⟨t, pt, kt⟩ := ha.ex
  obtain ⟨t2, p2, k2⟩ := hg.ex
  refine ⟨_, ps_asg pt p2 hs hw h1, fun T ρ σ H E D r h k => kt T ρ σ H _ _ r h fun d ρ1 v H1 r1 q1 v1 h => k2 T ρ1 σ H1 _ _ _ _ r1 v1 h fun ρ2 σ2 r2 q2 _ h => k.nx _ _ _ r2 (q1.trans q2) h⟩
/-- a, b = e1, e2 with plain local names -/
def sPar (i j : Nat) (f g : DX) : DS := fun E ρ => f ρ fun s1 ρ1 => g ρ1 fun s2 ρ2 => E.nx ((ρ2.set i (some s1)).set j (some s2))
end
end Dn
set_option Elab.async false
set_option linter.all false
set_option maxRecDepth 100000
set_option autoImplicit false
set_option maxHeartbeats 4000000
namespace Dn
open PySem L2 Evl
section
variable {X : Cx} {a b c e : Expr} {fa fb fc : DE} {pos p : Pos} {es : List Expr} {x y : Str}
theorem setc {α : Type} {l : List α} {i j : Nat} {u v : α} (h : i ≠ j) : (l.set i u).set j v = (l.set j v).set i u := List.set_comm u v h
theorem Fits.grow {K : PySem.W.Frag} {T : Addr → Prop} {ρ : Env} {σ : L2.St} {H0 H H' : Hp} {v : V} {sv : SV} (h : Fits K T ρ σ H0 H v sv) (e : Ex H H') : Fits K T ρ σ H0 H' v sv := by
  cases sv with
  | im d => exact ⟨h.1.grow e, h.2.mono (hide_grow e)⟩
  | ow m => obtain ⟨q, o, h1, h2, h3, h4, h5, h6⟩ := h; exact ⟨q, o, h1, h2, e _ _ h3, h4.grow e, h5.mono (hide_grow e), h6⟩
/-- the temps under which the next part is reckoned -/
def SV.temps (v : V) (sv : SV) (T : Addr → Prop) : Addr → Prop := match sv, v with
  | .ow _, .ref p => plus T p
  | _, _ => T
theorem Fits.rs {K : PySem.W.Frag} {T : Addr → Prop} {ρ : Env} {σ : L2.St} {H0 H : Hp} {v : V} {sv : SV} (h : Fits K T ρ σ H0 H v sv) : RS K (sv.temps v T) ρ σ H := by
  cases sv with
  | im d => exact h.1
  | ow m => obtain ⟨q, o, rfl, h2, h3, h4, h5, _⟩ := h; exact h4
theorem par_fin {K : PySem.W.Frag} {T : Addr → Prop} {ρ ρ1 ρ2 : Env} {σ : L2.St} {H H1 H2 : Hp} {v w : V} {s1 s2 : SV} {i j : Nat} (hij : i ≠ j) (r : RS K T ρ σ H) (f1 : Fits K T ρ1 σ H H1 v s1) (q1 : Po ρ σ H ρ1 σ H1)
    (f2 : Fits K (s1.temps v T) ρ2 σ H1 H2 w s2) (q2 : Po ρ1 σ H1 ρ2 σ H2) : RS K T ((ρ2.set i (some s1)).set j (some s2)) ((σ.set i (some v)).set j (some w)) H2 ∧ Po ρ σ H ((ρ2.set i (some s1)).set j (some s2)) ((σ.set i (some v)).set j (some w)) H2 := by
  rw [setc hij, setc hij]
  obtain ⟨r3, q3⟩ := fits_set (i := j) f1.rs q2 f2
  cases s1 with
  | im d => exact ⟨r3.setIm (f1.2.mono q3.fz), (q1.trans q3).trans .setIm⟩
  | ow m =>
    obtain ⟨p, o, rfl, hn, ho, r4, rr, np⟩ := f1
    have no : ¬ Own ρ1 σ p := r4.dis p (.inl rfl)
    exact ⟨r3.setOw (q3.keep p o no ho) (rr.mono q3.fz) (fun t => r.dom p t hn) fun _ _ z => (np _ _ z).elim, (q1.trans q3).setOw hn⟩
theorem js_par {i j : Nat} {f g : DX} {px py pt : Pos} {kt k2 pt2} (hc : X.calm = true) (hN : X.N.Nodup) (hi : X.N[i]? = some x) (hj : X.N[j]? = some y) (hij : i ≠ j) (hx : X.env.scope.names.lookup x = some .local) (hy : X.env.scope.names.lookup y = some .local)
    (ha : JX X a f) (hb : JX X b g) (hw : swappedStores [.Tuple [.Name x px, .Name y py] kt pt] (.Tuple [a, b] k2 pt2) X.env = pure (some [x, y])) (hs : swapsWithSole [.Tuple [.Name x px, .Name y py] kt pt] (.Tuple [a, b] k2 pt2) pos.line X.env = pure false := by rfl)
    (h1 : starEach [a, b] X.env = (false, eval a X.env) :: starEach [b] X.env := by rfl) (h2 : starEach [b] X.env = (false, eval b X.env) :: starEach [] X.env := by rfl) :
    JS X (.Assign [.Tuple [.Name x px, .Name y py] kt pt] (.Tuple [a, b] k2 pt2) pos) (sPar i j f g) := by
  obtain ⟨t1, p1, k1⟩ := ha.ex
  obtain ⟨t2, p2, k2⟩ := hb.ex
  refine ⟨_, ps_par hc hN hi hj hij hx hy (pa_cons p1 (pa_cons p2 pa_nil h2) h1) hw hs, fun T ρ σ H E D r h k => ?_⟩
  refine k1 T ρ σ H _ _ r h fun s1 ρ1 v H1 f1 q1 h => k2 (s1.temps v T) ρ1 σ H1 _ _ f1.rs h fun s2 ρ2 w H2 f2 q2 h => ⟨v, w, rfl, ?_⟩
  obtain ⟨r3, q3⟩ := par_fin hij r f1 q1 f2 q2
  exact k.nx _ _ _ r3 q3 h
/-- the same where the names are cells, too: the pair is made -/
theorem js_parT {i j : Nat} {f g : DX} {px py pt : Pos} {kt k2 pt2} (hc : X.calm = true) (hN : X.N.Nodup) (hi : X.N[i]? = some x) (hj : X.N[j]? = some y) (hij : i ≠ j) (hx : Loc X.env.scope x) (hy : Loc X.env.scope y)
    (ha : JX X a f) (hb : JX X b g) (hfx : X.fn x = true ∨ X.env.scope.names.lookup x = some .local := by first | exact .inl rfl | exact .inr rfl | assumption) (hfy : X.fn y = true ∨ X.env.scope.names.lookup y = some .local := by first | exact .inl rfl | exact .inr rfl | assumption)
    (hw : swappedStores [.Tuple [.Name x px, .Name y py] kt pt] (.Tuple [a, b] k2 pt2) X.env = pure none := by rfl) (hs : swapsWithSole [.Tuple [.Name x px, .Name y py] kt pt] (.Tuple [a, b] k2 pt2) pos.line X.env = pure false := by rfl)
    (h1 : starEach [a, b] X.env = (false, eval a X.env) :: starEach [b] X.env := by rfl) (h2 : starEach [b] X.env = (false, eval b X.env) :: starEach [] X.env := by rfl)
    (h3 : (assignEach [.Tuple [.Name x px, .Name y py] kt pt] X.env).map (·.2) = [assign (.Tuple [.Name x px, .Name y py] kt pt) X.env] := by rfl) (h4 : (assignEach [.Name x px, .Name y py] X.env).length = 2 := by rfl) (h5 : (assignEach [.Name x px, .Name y py] X.env).findIdx? (·.1) = none := by rfl)
    (h6 : (assignEach [.Name x px, .Name y py] X.env).map (·.2) = assign (.Name x px) X.env :: (assignEach [.Name y py] X.env).map (·.2) := by rfl) (h7 : (assignEach [.Name y py] X.env).map (·.2) = assign (.Name y py) X.env :: (assignEach [] X.env).map (·.2) := by rfl) :
    JS X (.Assign [.Tuple [.Name x px, .Name y py] kt pt] (.Tuple [a, b] k2 pt2) pos) (sPar i j f g) := by
  obtain ⟨t1, p1, k1⟩ := ha.ex
  obtain ⟨t2, p2, k2⟩ := hb.ex
  refine ⟨_, ps_asg (pe_tup (pa_cons p1 (pa_cons p2 pa_nil h2) h1)) (pg_tup hc (pgs_cons (pg_name hN hi hx hfx) (pgs_cons (pg_name hN hj hy hfy) pgs_nil h7) h6) h4 h5) hs hw h3, fun T ρ σ H E D r h k => ?_⟩
  refine k1 T ρ σ H _ _ r h fun s1 ρ1 v H1 f1 q1 h => k2 (s1.temps v T) ρ1 σ H1 _ _ f1.rs h fun s2 ρ2 w H2 f2 q2 h => ⟨by show 2 ≤ sizeLine; decide, fun l hl => ?_⟩
  obtain ⟨r3, q3⟩ := par_fin hij r f1 q1 (f2.grow (Ex.new hl)) (q2.trans (.grow (Ex.new hl)))
  exact ⟨l, [v, w], rfl, .inl (.inl upd_same), rfl, _, _, rfl, _, _, rfl, rfl, k.nx _ _ _ r3 q3 h⟩

/-! ### what is walked -/
structure ItOk (K : PySem.W.Frag) (J : It) (G : Hp) (ds : List D) : Prop where
  stop : ∀ H, Ex G H → J.stop ds.length H
  step : ∀ (i : Nat) (d : D) (H : Hp), ds[i]? = some d → Ex G H → J.go i H ∧ ∀ x H', J.yld i H x H' → Ex H H' ∧ ∀ O : Addr → Prop, (∀ a, O a → H a ≠ none) → Ex G (hide O H) → Rp K (hide O H') x d
structure JI (X : Cx) (tg iter : Expr) (f : DL) : Prop where
  ex : ∃ wi, PI X tg iter wi ∧ ∀ (T : Addr → Prop) (ρ : Env) (σ : L2.St) (H : Hp) (QD : List D → Env → Prop) (R : It → Hp → Prop), RS X.K T ρ σ H → f ρ QD →
    (∀ ds ρ' J H', RS X.K T ρ' σ H' → Po ρ σ H ρ' σ H' → ItOk X.K J (hide (Hd T ρ' σ) H') ds → QD ds ρ' → R J H') → wi σ H R
theorem it_list {K : PySem.W.Frag} {G : Hp} {a : Addr} {xs : List V} {ds : List D} (h : SqL K G a xs) (r : RpAll K G xs ds) : ItOk K (Itl K a) G ds :=
  ⟨fun H e => ⟨xs, ex_l e h, by rw [r.length]; exact Nat.le_refl _⟩, fun i d H hd e => by
    obtain ⟨v, h1, h2⟩ := r.get hd
    refine ⟨⟨xs, v, ex_l e h, h1⟩, fun x H' y => ?_⟩
    obtain ⟨rfl, y⟩ := y
    have := y xs (ex_l e h)
    rw [h1] at this; cases this
    exact ⟨Ex.refl _, fun O _ eo => h2.mono eo⟩⟩
theorem it_tup {K : PySem.W.Frag} {G : Hp} {a : Addr} {xs : List V} {ds : List D} (h : SqT K G a xs) (r : RpAll K G xs ds) : ItOk K (Itt K a) G ds :=
  ⟨fun H e => ⟨xs, ex_t e h, by rw [r.length]; exact Nat.le_refl _⟩, fun i d H hd e => by
    obtain ⟨v, h1, h2⟩ := r.get hd
    refine ⟨⟨xs, v, ex_t e h, h1⟩, fun x H' y => ?_⟩
    obtain ⟨rfl, y⟩ := y
    have := y xs (ex_t e h)
    rw [h1] at this; cases this
    exact ⟨Ex.refl _, fun O _ eo => h2.mono eo⟩⟩
theorem it_range {K : PySem.W.Frag} {G : Hp} (i j : Int) : ItOk K (Itr i (j - i).toNat) G (rgD i j) :=
  ⟨fun H e => by show (j - i).toNat ≤ (rgD i j).length; unfold rgD; simp, fun k d H hd e => by
    unfold rgD at hd
    rw [List.getElem?_map] at hd
    obtain ⟨m, hm, rfl⟩ := Option.map_eq_some_iff.mp hd
    obtain ⟨hk, hm⟩ := List.getElem?_eq_some_iff.mp hm
    simp at hk hm
    subst hm
    refine ⟨by show k < (j - i).toNat; omega, fun x H' y => ?_⟩
    obtain ⟨rfl, rfl⟩ := y
    exact ⟨Ex.refl _, fun O _ eo => .int _⟩⟩
variable {tg : Expr}
/-- over a list, told by its kind -/
def iLs (f : DE) : DL := fun ρ Q => f ρ fun d ρ1 => match d with
  | .list ds => Q ds ρ1
  | _ => False
def iTp (f : DE) : DL := fun ρ Q => f ρ fun d ρ1 => match d with
  | .tuple ds => Q ds ρ1
  | _ => False
theorem ji_list (ha : JE X a fa) : JI X tg a (iLs fa) := by
  obtain ⟨t, pt, kt⟩ := ha.ex
  refine ⟨_, pi_list pt, fun T ρ σ H QD R r h q => kt T ρ σ H _ _ r h fun d ρ1 v H1 r1 p1 v1 h => ?_⟩
  cases v1 with
  | lst hp rr => exact ⟨_, rfl, ⟨_, .inl (.inl (at_of hp))⟩, q _ _ _ _ r1 p1 (it_list (.inl (.inl hp)) rr) h⟩
  | _ => exact False.elim h
theorem ji_tup (ha : JE X a fa) : JI X tg a (iTp fa) := by
  obtain ⟨t, pt, kt⟩ := ha.ex
  refine ⟨_, pi_tup pt, fun T ρ σ H QD R r h q => kt T ρ σ H _ _ r h fun d ρ1 v H1 r1 p1 v1 h => ?_⟩
  cases v1 with
  | tup hp rr => exact ⟨_, rfl, ⟨_, sqt_of hp⟩, q _ _ _ _ r1 p1 (it_tup (lt_of hp) rr) h⟩
  | _ => exact False.elim h
/-- over an owned list: from there on it stands as it is -/
def iOw (i : Nat) : DL := fun ρ Q => match ρ[i]? with
  | some (some (.ow (.lst ds))) => Q ds (ρ.set i (some (.im (.list ds))))
  | _ => False
theorem ji_own {i : Nat} {px : Pos} (hN : X.N[i]? = some x) (hv : Vis X.env.scope x) (hd : (x == ("__debug__" : Str)) = false := by decide) (hcd : (x == ("__classdict__" : Str)) = false := by decide) : JI X tg (.Name x px) (iOw i) := by
  refine ⟨_, pi_list (pe_var hN hv hd hcd), fun T ρ σ H QD R r h q => ?_⟩
  unfold iOw at h
  split at h
  · rename_i ds e1
    have rf := r.freeze e1
    obtain ⟨v, hv, rv⟩ := rf.im i (.list ds) (List.getElem?_set_self (List.getElem?_eq_some_iff.mp e1).1)
    cases rv with
    | lst hp rr => exact ⟨_, hv, _, rfl, ⟨_, .inl (.inl (at_of hp))⟩, q _ _ _ _ rf .freeze (it_list (.inl (.inl hp)) rr) h⟩
  · exact False.elim h
def iR1 (f : DE) : DL := fun ρ Q => f ρ fun d ρ1 => match d with
  | .int n => RgD 0 n ∧ Q (rgD 0 n) ρ1
  | _ => False
def iR2 (f g : DE) : DL := fun ρ Q => f ρ fun d ρ1 => g ρ1 fun e ρ2 => match d, e with
  | .int i, .int j => RgD i j ∧ Q (rgD i j) ρ2
  | _, _ => False
theorem ji_r1 (hm : X.mg "range" = none) (ha : JE X a fa) (hg : Gl X "range" := by rfl) (hs : starEach [a] X.env = [(false, eval a X.env)] := by rfl) : JI X tg (.Call (.Name "range" p) [a] [] pos) (iR1 fa) := by
  obtain ⟨t, pt, kt⟩ := ha.ex
  refine ⟨_, pi_range1 hg hm (pa_cons pt pa_nil hs) hs, fun T ρ σ H QD R r h q => kt T ρ σ H _ _ r h fun d ρ1 v H1 r1 p1 v1 h => ?_⟩
  cases v1 with
  | int n =>
    obtain ⟨⟨_, _, h1, h2⟩, h⟩ := h
    have z := q _ _ _ _ r1 p1 (it_range (K := X.K) 0 n) h
    rw [show (n - 0).toNat = n.toNat from by congr 1; omega] at z
    exact ⟨n, rfl, by omega, by omega, z⟩
  | _ => exact False.elim h
theorem ji_r2 (hm : X.mg "range" = none) (ha : JE X a fa) (hb : JE X b fb) (hg : Gl X "range" := by rfl) (hs : starEach [a, b] X.env = [(false, eval a X.env), (false, eval b X.env)] := by rfl) (hs2 : starEach [b] X.env = [(false, eval b X.env)] := by rfl) : JI X tg (.Call (.Name "range" p) [a, b] [] pos) (iR2 fa fb) := by
  obtain ⟨t, pt, kt⟩ := ha.ex
  obtain ⟨t2, pt2, kt2⟩ := hb.ex
  refine ⟨_, pi_range2 hg hm (pa_cons pt (pa_cons pt2 pa_nil hs2) (by rw [hs, hs2])) hs hs2, fun T ρ σ H QD R r h q => kt T ρ σ H _ _ r h fun d ρ1 v H1 r1 p1 v1 h => kt2 T ρ1 σ H1 _ _ r1 h fun d ρ2 w H2 r2 p2 v2 h => ?_⟩
  cases v1 <;> cases v2 <;> first | exact False.elim h | skip
  obtain ⟨⟨h1, h2, h3, h4⟩, h⟩ := h
  exact ⟨_, _, rfl, ⟨by omega, by omega, by omega, by omega⟩, q _ _ _ _ r2 (p1.trans p2) (it_range (K := X.K) _ _) h⟩
/-- enumerate of a list -/
def enD (ds : List D) : List D := (List.range ds.length).zipWith (fun k d => .tuple [.int (k : Nat), d]) ds
theorem enD_get {ds : List D} {i : Nat} {d : D} (h : (enD ds)[i]? = some d) : ∃ e, ds[i]? = some e ∧ d = .tuple [.int (i : Nat), e] := by
  unfold enD at h
  rw [List.getElem?_zipWith] at h
  by_cases hi : i < ds.length
  · rw [List.getElem?_range hi, List.getElem?_eq_getElem hi] at h
    simp at h
    exact ⟨_, List.getElem?_eq_getElem hi, h.symm⟩
  · rw [List.getElem?_eq_none_iff.mpr (show ds.length ≤ i by omega)] at h
    cases hr : (List.range ds.length)[i]? <;> rw [hr] at h <;> cases h
theorem enD_len {ds : List D} : (enD ds).length = ds.length := by unfold enD; simp
def iEnL (f : DE) : DL := fun ρ Q => f ρ fun d ρ1 => match d with
  | .list ds => Q (enD ds) ρ1
  | _ => False
theorem ji_enumL {elts : List Expr} {kk : Nat} {tpos : Pos} (hm : X.mg "enumerate" = none) (ha : JE X a fa) (hg : Gl X "enumerate" := by rfl) (hs : starEach [a] X.env = [(false, eval a X.env)] := by rfl) : JI X (.Tuple elts kk tpos) (.Call (.Name "enumerate" p) [a] [] pos) (iEnL fa) := by
  obtain ⟨t, pt, kt⟩ := ha.ex
  refine ⟨_, pi_enum hg hm (pa_cons pt pa_nil hs) hs, fun T ρ σ H QD R r h q => kt T ρ σ H _ _ r h fun d ρ1 v H1 r1 p1 v1 h => ?_⟩
  cases v1 with
  | @lst a xs ds hp rr =>
    refine ⟨_, _, rfl, .inl (.inl (at_of hp)), q _ _ _ _ r1 p1 ⟨fun H e => ⟨xs, .inl (.inl (e _ _ hp)), by rw [enD_len, rr.length]; exact Nat.le_refl _⟩, fun i d H hd e => ?_⟩ h⟩
    obtain ⟨g, hg, rfl⟩ := enD_get hd
    obtain ⟨u, hu, ru⟩ := rr.get hg
    refine ⟨⟨xs, u, .inl (.inl (e _ _ hp)), hu⟩, fun x H' y => ?_⟩
    obtain ⟨l, z, rfl, hl, rfl, y⟩ := y
    have := y xs (.inl (.inl (e _ _ hp)))
    rw [hu] at this; cases this
    exact ⟨Ex.new hl, fun O hO eo => rp_newT hO hl (.cons (.int _) (.cons (ru.mono eo) .nil))⟩
  | _ => exact False.elim h
end
end Dn
set_option Elab.async false
set_option linter.all false
set_option maxRecDepth 100000
set_option autoImplicit false
set_option maxHeartbeats 4000000
namespace Dn
open PySem L2 Evl
/-! ### loops -/
def wpFor (g : DG) (body : DS) (E : DEnds) : List D → Env → Prop
  | [], ρ => E.nx ρ
  | d :: ds, ρ => g d ρ fun ρ1 => body { nx := fun ρ2 => wpFor g body E ds ρ2, ct := fun ρ2 => wpFor g body E ds ρ2, bk := E.nx, rt := E.rt } ρ1
def sFor (fi : DL) (g : DG) (body : DS) : DS := fun E ρ => fi ρ fun ds ρ1 => wpFor g body E ds ρ1
def wpWh (c : DT) (body : DS) (E : DEnds) : Nat → Env → Prop
  | 0, _ => False
  | n + 1, ρ => c ρ fun b ρ1 => if b = true then body { nx := wpWh c body E n, ct := wpWh c body E n, bk := E.nx, rt := E.rt } ρ1 else E.nx ρ1
def sWh (c : DT) (body : DS) : DS := fun E ρ => ∃ n, wpWh c body E n ρ
section
variable {X : Cx} {a b c e : Expr} {fa fb fc : DE} {pos p : Pos} {es : List Expr} {x y : Str}
theorem js_for {tg iter : Expr} {body : List Stmt} {fi : DL} {g : DG} {vs : List Nat} {f : DS} (hc : X.calm = true) (hi : JI X tg iter fi) (hg : JG X tg vs g) (hb : JSs X body f) (hp : PassesOwn (model X.prog X.w) X.A X.env X.xe := by exact PassesOwn.never)
    (hs : ∀ x, foldedSetIterable iter X.env x = pure x := by intro _; rfl) : JS X (.For tg iter body [] pos) (sFor fi g f) := by
  obtain ⟨wi, pi, ki⟩ := hi.ex
  obtain ⟨tg', pg, kg⟩ := hg.ex
  obtain ⟨tb, pb, kb⟩ := hb.ex
  refine ⟨_, ps_for hp hc pi pg pb hs, fun T ρ σ H E D r h k => ki T ρ σ H _ _ r h fun ds ρ1 J H1 r1 p1 it h => ?_⟩
  refine ⟨fun i m σ' H' => i ≤ ds.length ∧ m = ds.length - i ∧ ∃ ρ', RS X.K T ρ' σ' H' ∧ Po ρ1 σ H1 ρ' σ' H' ∧ wpFor g f E (ds.drop i) ρ', ⟨ds.length, Nat.zero_le _, rfl, ρ1, r1, .refl, h⟩, ?_⟩
  rintro i m σ' H' ⟨hi, rfl, ρ', r', p', h⟩
  have eG : Ex (hide (Hd T ρ1 σ) H1) H' := (p'.fz (T := T)).trans hide_ex
  by_cases hl : i < ds.length
  · rw [List.drop_eq_getElem_cons hl] at h
    obtain ⟨go, st⟩ := it.step i ds[i] H' (List.getElem?_eq_getElem hl) eG
    refine .inr ⟨go, fun σ2 H2 => ∃ ρ2, RS X.K T ρ2 σ2 H2 ∧ Po ρ1 σ H1 ρ2 σ2 H2 ∧ wpFor g f E (ds.drop (i + 1)) ρ2, fun σ2 H2 ⟨ρ2, a1, a2, a3⟩ => ⟨ds.length - (i + 1), by omega, by omega, rfl, ρ2, a1, a2, a3⟩, fun v H2 hy => ?_⟩
    obtain ⟨ex, rv⟩ := st v H2 hy
    have r2 := r'.grow ex
    have p2 := p'.trans (Po.grow (ρ := ρ') (σ := σ') ex)
    refine kg T ρ' σ' H2 v _ _ _ r2 (rv _ (fun a => r'.hdDom) (p'.fz (T := T))) h fun ρ3 σ3 r3 p3 _ h => ?_
    refine kb T ρ3 σ3 H2 _ _ r3 h ⟨fun ρ4 σ4 H4 r4 p4 h => ⟨ρ4, r4, (p2.trans p3).trans p4, h⟩, fun d ρ4 σ4 v4 H4 r4 p4 v5 h => k.rt d ρ4 σ4 v4 H4 r4 ((p1.trans (p2.trans p3)).trans p4) v5 h, fun ρ4 σ4 H4 r4 p4 h => k.nx ρ4 σ4 H4 r4 ((p1.trans (p2.trans p3)).trans p4) h, fun ρ4 σ4 H4 r4 p4 h => ⟨ρ4, r4, (p2.trans p3).trans p4, h⟩⟩
  · have e : i = ds.length := by omega
    subst e
    rw [List.drop_length] at h
    exact .inl ⟨it.stop H' eG, k.nx _ _ _ r' (p1.trans p') h⟩
theorem js_while {body : List Stmt} {g : DT} {f : DS} (hc : JT X c g) (hb : JSs X body f) (hp : PassesOwn (model X.prog X.w) X.A X.env X.xe := by exact PassesOwn.never) : JS X (.While c body [] pos) (sWh g f) := by
  obtain ⟨tc, pc, kc⟩ := hc.ex
  obtain ⟨tb, pb, kb⟩ := hb.ex
  refine ⟨_, ps_while hp pc pb, fun T ρ σ H E D r h k => ?_⟩
  obtain ⟨n, h⟩ := h
  refine ⟨fun m σ' H' => ∃ ρ', RS X.K T ρ' σ' H' ∧ Po ρ σ H ρ' σ' H' ∧ wpWh g f E m ρ', ⟨n, ρ, r, .refl, h⟩, ?_⟩
  rintro m σ' H' ⟨ρ', r', p', h⟩
  cases m with
  | zero => exact False.elim h
  | succ m =>
    refine kc T ρ' σ' H' _ _ r' h fun b ρ1 H1 r1 p1 h => ?_
    cases b with
    | false => exact k.nx _ _ _ r1 (p'.trans p1) h
    | true =>
      rw [if_pos rfl] at h ⊢
      refine ⟨fun σ2 H2 => ∃ ρ2, RS X.K T ρ2 σ2 H2 ∧ Po ρ σ H ρ2 σ2 H2 ∧ wpWh g f E m ρ2, fun σ2 H2 ⟨ρ2, a1, a2, a3⟩ => ⟨m, Nat.lt_succ_self m, ρ2, a1, a2, a3⟩, ?_⟩
      have q := p'.trans p1
      exact kb T ρ1 σ' H1 _ _ r1 h ⟨fun ρ4 σ4 H4 r4 p4 h => ⟨ρ4, r4, q.trans p4, h⟩, fun d ρ4 σ4 v4 H4 r4 p4 v5 h => k.rt d ρ4 σ4 v4 H4 r4 (q.trans p4) v5 h, fun ρ4 σ4 H4 r4 p4 h => k.nx ρ4 σ4 H4 r4 (q.trans p4) h, fun ρ4 σ4 H4 r4 p4 h => ⟨ρ4, r4, q.trans p4, h⟩⟩

/-! ### list comprehensions -/
def wipeD (ρ : Env) : List Nat → Env
  | [] => ρ
  | v :: vs => (wipeD ρ vs).set v none
section
variable {K : PySem.W.Frag} {T : Addr → Prop} {ρ ρ' : Env} {σ σ' : L2.St} {H H' : Hp}
theorem own_congr (hs : ∀ (i : Nat) (sv : SV), ρ[i]? = some (some sv) → σ'[i]? = σ[i]?) {a : Addr} (w : Own ρ σ' a) : Own ρ σ a := by
  obtain ⟨i, m, h1, h2⟩ := w
  exact ⟨i, m, h1, by rw [← hs i _ h1]; exact h2⟩
theorem RS.congr (r : RS K T ρ σ H) (hl : σ'.length = σ.length) (hs : ∀ (i : Nat) (sv : SV), ρ[i]? = some (some sv) → σ'[i]? = σ[i]?) : RS K T ρ σ' H := by
  have e : Ex (hide (Hd T ρ σ) H) (hide (Hd T ρ σ') H) := hide_sub fun a w => w.elim .inl fun w => .inr (own_congr hs w)
  refine ⟨by rw [r.len, hl], fun i d h => ?_, fun i m h => ?_, fun i j m m' a h1 h2 h3 h4 => ?_, fun a t w => r.dis a t (own_congr hs w), r.dom, fun i p m a h1 h2 => by rw [hs i _ h1] at h2; exact r.tag i p m a h1 h2⟩
  · obtain ⟨v, h1, h2⟩ := r.im i d h; exact ⟨v, by rw [hs i _ h]; exact h1, h2.mono e⟩
  · obtain ⟨a, o, h1, h2, h3⟩ := r.ow i m h; exact ⟨a, o, by rw [hs i _ h]; exact h1, h2, h3.mono e⟩
  · rw [hs i _ h1] at h3; rw [hs j _ h2] at h4; exact r.inj i j m m' a h1 h2 h3 h4
theorem own_drop {i : Nat} {a : Addr} (w : Own (ρ.set i none) σ a) : Own ρ σ a := by
  obtain ⟨j, m, h1, h2⟩ := w
  rcases getset h1 with ⟨_, _, h⟩ | ⟨_, h⟩
  · cases h
  · exact ⟨j, m, h, h2⟩
theorem RS.drop {i : Nat} (r : RS K T ρ σ H) : RS K T (ρ.set i none) σ H := by
  have e : Ex (hide (Hd T ρ σ) H) (hide (Hd T (ρ.set i none) σ) H) := hide_sub fun a w => w.elim .inl fun w => .inr (own_drop w)
  refine ⟨by simp [r.len], fun j d h => ?_, fun j m h => ?_, fun j k m m' a h1 h2 h3 h4 => ?_, fun a t w => r.dis a t (own_drop w), r.dom, fun j p m a h1 h2 => ?_⟩
  · rcases getset h with ⟨_, _, h⟩ | ⟨_, h⟩
    · cases h
    · obtain ⟨v, h1, h2⟩ := r.im j d h; exact ⟨v, h1, h2.mono e⟩
  · rcases getset h with ⟨_, _, h⟩ | ⟨_, h⟩
    · cases h
    · obtain ⟨a, o, h1, h2, h3⟩ := r.ow j m h; exact ⟨a, o, h1, h2, h3.mono e⟩
  · rcases getset h1 with ⟨_, _, h1⟩ | ⟨_, h1⟩
    · cases h1
    · rcases getset h2 with ⟨_, _, h2⟩ | ⟨_, h2⟩
      · cases h2
      · exact r.inj j k m m' a h1 h2 h3 h4
  · rcases getset h1 with ⟨_, _, h1⟩ | ⟨_, h1⟩
    · cases h1
    · exact r.tag j p m a h1 h2
theorem Po.drop {i : Nat} : Po ρ σ H (ρ.set i none) σ H := ⟨fun _ _ _ h => h, fun a w => .inl (own_drop w), fun _ h => h⟩
theorem RS.dropAll (r : RS K T ρ σ H) : ∀ vs : List Nat, RS K T (wipeD ρ vs) σ H
  | [] => r
  | v :: vs => (RS.dropAll r vs).drop
theorem Po.dropAll : ∀ vs : List Nat, Po ρ σ H (wipeD ρ vs) σ H
  | [] => .refl
  | v :: vs => (Po.dropAll vs).trans .drop
theorem wipeD_none : ∀ (vs : List Nat) (i : Nat) (sv : SV), (wipeD ρ vs)[i]? = some (some sv) → i ∉ vs
  | [], _, _, _ => by simp
  | v :: vs, i, sv, h => by
    rcases getset (show ((wipeD ρ vs).set v none)[i]? = _ from h) with ⟨_, _, h⟩ | ⟨ne, h⟩
    · cases h
    · intro z
      rcases List.mem_cons.mp z with z | z
      · exact ne z.symm
      · exact wipeD_none vs i sv h z
theorem wipe_ne : ∀ (vs : List Nat) (i : Nat), i ∉ vs → (wipe σ vs)[i]? = σ[i]?
  | [], _, _ => rfl
  | v :: vs, i, h => by
    show ((wipe σ vs).set v none)[i]? = _
    rw [List.getElem?_set_ne (fun z => h (by rw [z]; exact List.mem_cons_self)), wipe_ne vs i fun z => h (List.mem_cons_of_mem _ z)]
/-- the slots vs are forgotten: what stands there does not matter -/
theorem RS.wiped (r : RS K T ρ σ H) (vs : List Nat) : RS K T (wipeD ρ vs) (wipe σ vs) H := (r.dropAll vs).congr (wipe_length σ vs) fun i sv h => wipe_ne vs i (wipeD_none vs i sv h)
theorem own_wipe {vs : List Nat} {a : Addr} (w : Own (wipeD ρ vs) (wipe σ vs) a) : Own ρ σ a := by
  have w' : Own (wipeD ρ vs) σ a := own_congr (fun i sv h => wipe_ne vs i (wipeD_none vs i sv h)) w
  rcases (Po.dropAll (ρ := ρ) (σ := σ) (H := fun _ => some (.tup [])) vs).own a w' with h | h
  · exact h
  · cases h
theorem Po.wiped (vs : List Nat) : Po ρ σ H (wipeD ρ vs) (wipe σ vs) H := ⟨fun _ _ _ h => h, fun a w => .inl (own_wipe w), fun _ h => h⟩
theorem RS.unwipe {vs : List Nat} (r : RS K T (wipeD ρ vs) (wipe σ vs) H) : RS K T (wipeD ρ vs) σ H := r.congr (wipe_length σ vs).symm fun i sv h => (wipe_ne vs i (wipeD_none vs i sv h)).symm
theorem own_unwipe {vs : List Nat} {a : Addr} (w : Own (wipeD ρ vs) σ a) : Own (wipeD ρ vs) (wipe σ vs) a := own_congr (fun i sv h => (wipe_ne vs i (wipeD_none vs i sv h)).symm) w
end
structure JTs (X : Cx) (ifs : List Expr) (f : DT) : Prop where
  ex : ∃ t, PTs X ifs t ∧ ∀ (T : Addr → Prop) (ρ : Env) (σ : L2.St) (H : Hp) (QD : Bool → Env → Prop) (Q : Bool → Hp → Prop), RS X.K T ρ σ H → f ρ QD →
    (∀ b ρ' H', RS X.K T ρ' σ H' → Po ρ σ H ρ' σ H' → QD b ρ' → Q b H') → t σ H Q
def dYes : DT := fun ρ Q => Q true ρ
theorem jts_nil : JTs X [] dYes := ⟨tYes, pts_nil, fun T ρ σ H QD Q r h q => q _ _ _ r .refl h⟩
theorem jts_one {g : DT} (h : JT X c g) : JTs X [c] g := let ⟨t, pt, k⟩ := h.ex; ⟨t, pts_one pt, k⟩
/-- the readings as they are used in a block -/
def teOf (K : PySem.W.Frag) (f : DE) : TE := fun σ H Q => ∃ (T : Addr → Prop) (ρ : Env) (QD : D → Env → Prop), RS K T ρ σ H ∧ f ρ QD ∧ ∀ d ρ' v H', RS K T ρ' σ H' → Po ρ σ H ρ' σ H' → Rp K (hide (Hd T ρ' σ) H') v d → QD d ρ' → Q v H'
def ttOf (K : PySem.W.Frag) (f : DT) : TT := fun σ H Q => ∃ (T : Addr → Prop) (ρ : Env) (QD : Bool → Env → Prop), RS K T ρ σ H ∧ f ρ QD ∧ ∀ d ρ' H', RS K T ρ' σ H' → Po ρ σ H ρ' σ H' → QD d ρ' → Q d H'
def tgOf (K : PySem.W.Frag) (vs : List Nat) (g : DG) : TG := fun v σ H Q => ∃ (T : Addr → Prop) (ρ : Env) (d : D) (QD : Env → Prop), RS K T ρ σ H ∧ Rp K (hide (Hd T ρ σ) H) v d ∧ g d ρ QD ∧ ∀ ρ' σ', RS K T ρ' σ' H → Po ρ σ H ρ' σ' H → wipe σ' vs = wipe σ vs → QD ρ' → Q σ' H
theorem JE.pe (h : JE X e fa) : PE X e (teOf X.K fa) := by
  obtain ⟨t, pt, k⟩ := h.ex
  exact ⟨fun pins s σ H Q I ⟨T, ρ, QD, r, h, q⟩ => pt.run pins s σ H Q I (k T ρ σ H QD Q r h q)⟩
theorem JTs.pts {ifs : List Expr} {g : DT} (h : JTs X ifs g) : PTs X ifs (ttOf X.K g) := by
  obtain ⟨t, pt, k⟩ := h.ex
  exact ⟨fun pins s σ H Q I ⟨T, ρ, QD, r, h, q⟩ => pt.run pins s σ H Q I (k T ρ σ H QD Q r h q)⟩
theorem JG.pg {tg : Expr} {vs : List Nat} {g : DG} (h : JG X tg vs g) : PG X tg (tgOf X.K vs g) := by
  obtain ⟨t, pt, k⟩ := h.ex
  exact ⟨fun pins s σ H v u Q I rv ⟨T, ρ, d, QD, r, r2, h, q⟩ => pt.run pins s σ H v u Q I rv (k T ρ σ H v d QD Q r r2 h q)⟩
def wpLc (g : DG) (tt : DT) (te : DE) (vs : List Nat) (Q : List D → Env → Prop) : List D → List D → Env → Prop
  | [], acc, ρ => Q acc ρ
  | d :: ds, acc, ρ => acc.length < 16777216 ∧ g d (wipeD ρ vs) fun ρ1 => tt ρ1 fun b ρ2 => if b = true then te ρ2 fun y ρ3 => wpLc g tt te vs Q ds (acc ++ [y]) (wipeD ρ3 vs) else wpLc g tt te vs Q ds acc (wipeD ρ2 vs)
def lLc (fi : DL) (g : DG) (tt : DT) (te : DE) (vs : List Nat) : DL := fun ρ Q => fi ρ fun ds ρ1 => wpLc g tt te vs Q ds [] (wipeD ρ1 vs)
theorem wipeD_idem {ρ : Env} : ∀ vs : List Nat, wipeD (wipeD ρ vs) vs = wipeD ρ vs := by
  intro vs
  apply List.ext_getElem?
  intro i
  have len : ∀ (ρ : Env) (vs : List Nat), (wipeD ρ vs).length = ρ.length := fun ρ vs => by
    induction vs with
    | nil => rfl
    | cons v vs ih => show ((wipeD ρ vs).set v none).length = _; rw [List.length_set, ih]
  have at1 : ∀ (ρ : Env) (vs : List Nat), (wipeD ρ vs)[i]? = if i ∈ vs then (if i < ρ.length then some none else none) else ρ[i]? := fun ρ vs => by
    induction vs with
    | nil => simp [wipeD]
    | cons v vs ih =>
      show ((wipeD ρ vs).set v none)[i]? = _
      by_cases e : v = i
      · subst e
        by_cases hl : v < ρ.length
        · rw [List.getElem?_set_self (by rw [len]; exact hl)]; simp [hl]
        · rw [List.getElem?_eq_none_iff.mpr (by rw [List.length_set, len]; omega)]; simp [hl]
      · rw [List.getElem?_set_ne e, ih]
        simp only [List.mem_cons, show ¬ i = v from fun z => e z.symm, false_or]
  rw [at1, at1, len]
  by_cases h : i ∈ vs <;> simp [h]
theorem wipe_idem (ρ : L2.St) : ∀ vs : List Nat, wipe (wipe ρ vs) vs = wipe ρ vs := by
  intro vs
  apply List.ext_getElem?
  intro i
  have len : ∀ (ρ : L2.St) (vs : List Nat), (wipe ρ vs).length = ρ.length := fun ρ vs => by
    induction vs with
    | nil => rfl
    | cons v vs ih => show ((wipe ρ vs).set v none).length = _; rw [List.length_set, ih]
  have at1 : ∀ (ρ : L2.St) (vs : List Nat), (wipe ρ vs)[i]? = if i ∈ vs then (if i < ρ.length then some none else none) else ρ[i]? := fun ρ vs => by
    induction vs with
    | nil => simp [wipe]
    | cons v vs ih =>
      show ((wipe ρ vs).set v none)[i]? = _
      by_cases e : v = i
      · subst e
        by_cases hl : v < ρ.length
        · rw [List.getElem?_set_self (by rw [len]; exact hl)]; simp [hl]
        · rw [List.getElem?_eq_none_iff.mpr (by rw [List.length_set, len]; omega)]; simp [hl]
      · rw [List.getElem?_set_ne e, ih]
        simp only [List.mem_cons, show ¬ i = v from fun z => e z.symm, false_or]
  rw [at1, at1, len]
  by_cases h : i ∈ vs <;> simp [h]
theorem lc_read {tg iter : Expr} {vs : List Nat} {fi : DL} {g : DG} {tt : DT} {te : DE} (hi : JI X tg iter fi) : ∃ wi, PI X tg iter wi ∧ ∀ (T : Addr → Prop) (ρ : Env) (σ : L2.St) (H : Hp) (QD : List D → Env → Prop) (Q : VK), RS X.K T ρ σ H → lLc fi g tt te vs ρ QD →
    (∀ ds ρ' p vs H', H p = none → H' p = some (.lst vs) → RS X.K (plus T p) ρ' σ H' → RpAll X.K (hide (Hd (plus T p) ρ' σ) H') vs ds → Po ρ σ H ρ' σ H' → QD ds ρ' → Q (.ref p) H') → tLc wi (tgOf X.K vs g) (ttOf X.K tt) (teOf X.K te) vs σ H Q := by
  obtain ⟨wi, pi, ki⟩ := hi.ex
  refine ⟨wi, pi, fun T ρ σ H QD Q r h q => ki T ρ σ H _ _ r h fun ds ρ1 J H1 r1 p1 it h => ?_⟩
  intro L hL
  -- kept: what was known at the start stands apart from the new list
  refine ⟨fun i m H' => i ≤ ds.length ∧ m = ds.length - i ∧ ∃ ρ' acc us, ρ' = wipeD ρ' vs ∧ RS X.K (plus T L) ρ' (wipe σ vs) H' ∧ Po ρ1 σ H1 ρ' (wipe σ vs) H' ∧ H' L = some (.lst us) ∧ RpAll X.K (hide (Hd (plus T L) ρ' (wipe σ vs)) H') us acc ∧ wpLc g tt te vs QD (ds.drop i) acc ρ',
    ⟨ds.length, Nat.zero_le _, rfl, wipeD ρ1 vs, [], [], (wipeD_idem vs).symm, (r1.laid hL).wiped vs, (Po.grow (Ex.new hL)).trans (.wiped vs), upd_same, .nil, h⟩, ?_⟩
  rintro i m H' ⟨hi, rfl, ρ', acc, us, ew, r', p', hl, ra, h⟩
  have eG : Ex (hide (Hd T ρ1 σ) H1) H' := (p'.fz (T := T)).trans hide_ex
  by_cases hlt : i < ds.length
  · rw [List.drop_eq_getElem_cons hlt] at h
    obtain ⟨hz, h⟩ := h
    obtain ⟨go, st⟩ := it.step i ds[i] H' (List.getElem?_eq_getElem hlt) eG
    refine .inr ⟨go, fun H2 => ∃ ρ2 acc us, ρ2 = wipeD ρ2 vs ∧ RS X.K (plus T L) ρ2 (wipe σ vs) H2 ∧ Po ρ1 σ H1 ρ2 (wipe σ vs) H2 ∧ H2 L = some (.lst us) ∧ RpAll X.K (hide (Hd (plus T L) ρ2 (wipe σ vs)) H2) us acc ∧ wpLc g tt te vs QD (ds.drop (i + 1)) acc ρ2,
      fun H2 w => ⟨ds.length - (i + 1), by omega, by omega, rfl, w⟩, fun v H2 hy => ?_⟩
    obtain ⟨ex, rv⟩ := st v H2 hy
    rw [← ew] at h
    have r2 := r'.grow ex
    have pa2 := p'.trans (Po.grow (ρ := ρ') (σ := wipe σ vs) ex)
    have ra2 := ra.mono (hide_grow (O := Hd (plus T L) ρ' (wipe σ vs)) ex)
    have nL : H1 L = none := hL
    have eO : Ex (hide (Hd T ρ1 σ) H1) (hide (Hd (plus T L) ρ' (wipe σ vs)) H') := fun a o w => by
      obtain ⟨n, w⟩ := hide_some.1 w
      obtain ⟨n2, w2⟩ := hide_some.1 ((p'.fz (T := T)) a o (hide_some.2 ⟨n, w⟩))
      refine hide_some.2 ⟨?_, w2⟩
      rintro ((t | t) | t)
      · subst t; rw [nL] at w; cases w
      · exact n2 (.inl t)
      · exact n2 (.inr t)
    refine ⟨plus T L, ρ', ds[i], _, r2, rv _ (fun a => r'.hdDom) eO, h, fun ρ3 σ3 r3 p3 w3 h => ⟨by rw [w3]; exact wipe_idem σ vs, plus T L, ρ3, _, r3, h, fun b ρ4 H4 r4 p4 h => ?_⟩⟩
    -- the new list is never the block's own
    have keepL : ∀ {ρa : Env} {σa : L2.St} {Ha Hb : Hp} {ρb : Env} {σb : L2.St} {o : HO}, RS X.K (plus T L) ρa σa Ha → Po ρa σa Ha ρb σb Hb → Ha L = some o → Hb L = some o := fun ra pab hh => pab.keep L _ (ra.dis L (.inl rfl)) hh
    have l4 : H4 L = some (.lst us) := keepL r2 (p3.trans p4) (ex _ _ hl)
    have ra4 := ra2.mono (((p3.trans p4)).fz (T := plus T L))
    have back : ∀ {ρ5 : Env} {H5 : Hp}, RS X.K (plus T L) ρ5 σ3 H5 → RS X.K (plus T L) (wipeD ρ5 vs) (wipe σ vs) H5 := fun {ρ5 H5} r5 => by
      have z := r5.wiped vs
      rw [w3, wipe_idem] at z
      exact z
    have pback : ∀ {ρ5 : Env} {H5 : Hp}, Po ρ1 σ H1 ρ5 σ3 H5 → Po ρ1 σ H1 (wipeD ρ5 vs) (wipe σ vs) H5 := fun {ρ5 H5} p5 => by
      have z := p5.trans (Po.wiped (ρ := ρ5) (σ := σ3) (H := H5) vs)
      rw [w3, wipe_idem] at z
      exact z
    cases b with
    | false =>
      refine ⟨wipeD ρ4 vs, acc, us, (wipeD_idem vs).symm, back r4, pback (pa2.trans (p3.trans p4)), l4, ?_, h⟩
      have z := ra4.mono ((Po.wiped (ρ := ρ4) (σ := σ3) (H := H4) vs).fz (T := plus T L))
      rw [w3, wipe_idem] at z
      exact z
    | true =>
      rw [if_pos rfl] at h
      dsimp only
      rw [if_pos rfl]
      refine ⟨plus T L, ρ4, _, r4, h, fun y ρ5 w H5 r5 p5 v5 h => ?_⟩
      have l5 : H5 L = some (.lst us) := keepL r4 p5 l4
      have ra5 := (ra4.mono (p5.fz (T := plus T L))).append (.cons v5 .nil)
      have aL : ∀ (o : HO), Ex (hide (Hd (plus T L) ρ5 σ3) H5) (hide (Hd (plus T L) ρ5 σ3) (upd H5 L o)) := fun o a u w => by
        obtain ⟨n, w⟩ := hide_some.1 w
        exact hide_some.2 ⟨n, by rw [upd_ne (fun z => n (.inl (.inl z)))]; exact w⟩
      have r6 : RS X.K (plus T L) ρ5 σ3 (upd H5 L (.lst (us ++ [w]))) := by
        refine ⟨r5.len, fun j d z => ?_, fun j m z => ?_, r5.inj, r5.dis, fun a t => ?_, r5.tag⟩
        · obtain ⟨u, h1, h2⟩ := r5.im j d z; exact ⟨u, h1, h2.mono (aL _)⟩
        · obtain ⟨a, o, h1, h2, h3⟩ := r5.ow j m z
          have ne : a ≠ L := fun e => by subst e; exact r5.dis a (.inl rfl) ⟨j, m, z, h1⟩
          exact ⟨a, o, h1, by rw [upd_ne ne]; exact h2, h3.mono (aL _)⟩
        · by_cases e : a = L
          · subst e; rw [upd_same]; simp
          · rw [upd_ne e]; exact r5.dom a t
      have p6 : Po ρ1 σ H1 ρ5 σ3 (upd H5 L (.lst (us ++ [w]))) := by
        have z := (pa2.trans (p3.trans p4)).trans p5
        refine ⟨fun a o n hh => ?_, z.own, fun a hh => ?_⟩
        · rw [upd_ne (fun e => by subst e; rw [nL] at hh; cases hh)]; exact z.keep a o n hh
        · by_cases e : a = L
          · subst e; rw [upd_same]; simp
          · rw [upd_ne e]; exact z.dom a hh
      refine ⟨us, l5, by rw [ra.length]; exact hz, wipeD ρ5 vs, acc ++ [y], us ++ [w], (wipeD_idem vs).symm, back r6, pback p6, upd_same, ?_, h⟩
      have z := (ra5.mono (aL (.lst (us ++ [w])))).mono ((Po.wiped (ρ := ρ5) (σ := σ3) (H := upd H5 L (.lst (us ++ [w]))) vs).fz (T := plus T L))
      rw [w3, wipe_idem] at z
      exact z
  · have e : i = ds.length := by omega
    subst e
    rw [List.drop_length] at h
    refine .inl ⟨it.stop H' eG, ?_⟩
    rw [ew] at r' p' ra h
    refine q acc (wipeD ρ' vs) L us H' (none_back p1 hL) hl r'.unwipe (ra.mono ?_) ?_ h
    · exact hide_sub fun a w => w.elim .inl fun w => .inr (own_unwipe w)
    · exact p1.trans ⟨p'.keep, fun a w => p'.own a (own_unwipe w), p'.dom⟩
theorem jl_lc {elt tg iter : Expr} {ifs : List Expr} {scope : Scope} {own : List (Str × Nat)} {fi : DL} {g : DG} {tt : DT} {te : DE} (hc : X.calm = true) (hN : X.N.Nodup) (hi : JI X tg iter fi) (ok : BlkOk X.N X.env.scope scope own)
    (hg : ∀ (s : Shared) (H : Hp) (C : Addr) (cl : List (Str × Addr)) (fp : List Addr), JG (X.blk s H scope (compEnvC scope cl C X.env) fp) tg (own.map (·.2)) g) (ht : ∀ (s : Shared) (H : Hp) (C : Addr) (cl : List (Str × Addr)) (fp : List Addr), JTs (X.blk s H scope (compEnvC scope cl C X.env) fp) ifs tt)
    (he : ∀ (s : Shared) (H : Hp) (C : Addr) (cl : List (Str × Addr)) (fp : List Addr), JE (X.blk s H scope (compEnvC scope cl C X.env) fp) elt te) (hs : ∀ x, foldedSetIterable iter X.env x = pure x := by intro _; rfl) :
    JL X (.ListComp elt [⟨tg, iter, ifs, 0⟩] scope pos) (lLc fi g tt te (own.map (·.2))) := by
  obtain ⟨wi, pi, k⟩ := lc_read (vs := own.map (·.2)) (g := g) (tt := tt) (te := te) hi
  exact ⟨_, pe_lc (wi := wi) (g := tgOf X.K (own.map (·.2)) g) (tt := ttOf X.K tt) (te := teOf X.K te) hc hN pi ok (fun s H C cl fp => (hg s H C cl fp).pg) (fun s H C cl fp => (ht s H C cl fp).pts) (fun s H C cl fp => (he s H C cl fp).pe) hs, k⟩
/-- name = [..], the name a plain local -/
theorem js_lcO {i : Nat} {py spos : Pos} {elt tg iter : Expr} {ifs : List Expr} {scope : Scope} {own : List (Str × Nat)} {fi : DL} {g : DG} {tt : DT} {te : DE} (hc : X.calm = true) (hN : X.N.Nodup) (hy : X.N[i]? = some y) (hyl : X.env.scope.names.lookup y = some .local)
    (hsw : swapsWith (.ListComp elt [⟨tg, iter, ifs, 0⟩] scope pos) (some (.Name y py)) spos.line X.env = pure true) (hi : JI X tg iter fi) (ok : BlkOk X.N X.env.scope scope own)
    (hg : ∀ (s : Shared) (H : Hp) (C : Addr) (cl : List (Str × Addr)) (fp : List Addr), JG (X.blk s H scope (compEnvC scope cl C X.env) fp) tg (own.map (·.2)) g) (ht : ∀ (s : Shared) (H : Hp) (C : Addr) (cl : List (Str × Addr)) (fp : List Addr), JTs (X.blk s H scope (compEnvC scope cl C X.env) fp) ifs tt)
    (he : ∀ (s : Shared) (H : Hp) (C : Addr) (cl : List (Str × Addr)) (fp : List Addr), JE (X.blk s H scope (compEnvC scope cl C X.env) fp) elt te) (hs : ∀ x, foldedSetIterable iter X.env x = pure x := by intro _; rfl) :
    JS X (.Assign [.Name y py] (.ListComp elt [⟨tg, iter, ifs, 0⟩] scope pos) spos) (sSet i (xOw (lLc fi g tt te (own.map (·.2))))) := by
  obtain ⟨wi, pi, k⟩ := lc_read (vs := own.map (·.2)) (g := g) (tt := tt) (te := te) hi
  refine ⟨_, ps_setLc (wi := wi) (g := tgOf X.K (own.map (·.2)) g) (tt := ttOf X.K tt) (te := teOf X.K te) hc hN hy hyl hsw pi ok (fun s H C cl fp => (hg s H C cl fp).pg) (fun s H C cl fp => (ht s H C cl fp).pts) (fun s H C cl fp => (he s H C cl fp).pe) hs, fun T ρ σ H E D r h q => ?_⟩
  refine k T ρ σ H _ _ r h fun ds ρ1 l vs H1 n sl r1 v1 p1 h => ?_
  obtain ⟨r2, q2⟩ := fits_set (i := i) (sv := .ow (.lst ds)) r p1 ⟨l, .lst vs, rfl, n, sl, r1, v1, fun _ _ z => nomatch z⟩
  exact q.nx _ _ _ r2 q2 h
theorem js_lcF {i : Nat} {py spos : Pos} {elt tg iter : Expr} {ifs : List Expr} {scope : Scope} {own : List (Str × Nat)} {fi : DL} {g : DG} {tt : DT} {te : DE} (hc : X.calm = true) (hN : X.N.Nodup) (hy : X.N[i]? = some y) (hyl : X.env.scope.names.lookup y = some .local)
    (hsw : swapsWith (.ListComp elt [⟨tg, iter, ifs, 0⟩] scope pos) (some (.Name y py)) spos.line X.env = pure true) (hi : JI X tg iter fi) (ok : BlkOk X.N X.env.scope scope own)
    (hg : ∀ (s : Shared) (H : Hp) (C : Addr) (cl : List (Str × Addr)) (fp : List Addr), JG (X.blk s H scope (compEnvC scope cl C X.env) fp) tg (own.map (·.2)) g) (ht : ∀ (s : Shared) (H : Hp) (C : Addr) (cl : List (Str × Addr)) (fp : List Addr), JTs (X.blk s H scope (compEnvC scope cl C X.env) fp) ifs tt)
    (he : ∀ (s : Shared) (H : Hp) (C : Addr) (cl : List (Str × Addr)) (fp : List Addr), JE (X.blk s H scope (compEnvC scope cl C X.env) fp) elt te) (hs : ∀ x, foldedSetIterable iter X.env x = pure x := by intro _; rfl) :
    JS X (.Assign [.Name y py] (.ListComp elt [⟨tg, iter, ifs, 0⟩] scope pos) spos) (sSet i (xIm (dOfL (lLc fi g tt te (own.map (·.2)))))) := by
  obtain ⟨wi, pi, k⟩ := lc_read (vs := own.map (·.2)) (g := g) (tt := tt) (te := te) hi
  refine ⟨_, ps_setLc (wi := wi) (g := tgOf X.K (own.map (·.2)) g) (tt := ttOf X.K tt) (te := teOf X.K te) hc hN hy hyl hsw pi ok (fun s H C cl fp => (hg s H C cl fp).pg) (fun s H C cl fp => (ht s H C cl fp).pts) (fun s H C cl fp => (he s H C cl fp).pe) hs, fun T ρ σ H E D r h q => ?_⟩
  refine k T ρ σ H _ _ r h fun ds ρ1 l vs H1 n sl r1 v1 p1 h => ?_
  have rl : Rp X.K (hide (Hd T ρ1 σ) H1) (.ref l) (.list ds) := .lst (hide_some.2 ⟨fun w => by
    rcases w with w | w
    · exact r.dom l w n
    · exact r1.dis l (.inl rfl) w, sl⟩) (v1.mono hd_unplus)
  exact q.nx _ _ _ (r1.unplus.setIm rl) (p1.trans .setIm) h
end
end Dn
set_option Elab.async false
set_option linter.all false
set_option maxRecDepth 100000
set_option autoImplicit false
set_option maxHeartbeats 4000000
/-! enumerate of a tuple, from the iterators up -/
namespace PySem
open Sem (wp)
open AutoSeq1 (wpAny_loadPart')
theorem own_enum_new (tp : Addr) (its : Array Value) (nn : Nat) (dd : Option Addr) (ss : Array (Option Value)) :
    Meets (Builtin.«enumerate.__new__» ⟨[.type "enumerate", .ref tp], []⟩) (fun _ R st =>
      st.heap.get? tp = some { cls := .type "tuple", dict := dd, data := .seq its nn, slots := ss } ∧
      R (.ok (.ret (.ref (st.heap.push { cls := .type "tuple_iterator", data := .fields #[.ref tp, .int 0 0] }).objs.size)))
        { st with heap := (st.heap.push { cls := .type "tuple_iterator", data := .fields #[.ref tp, .int 0 0] }).push { cls := .type "enumerate", data := .fields #[.none, .bool false, .ref st.heap.objs.size, rawInt 0, .none, .none] } }) :=
  .of_wp fun prog w A R st h => by
    obtain ⟨hp, gg, dr, tk, oo⟩ := st
    obtain ⟨at_, h⟩ := h
    have isSub := sub_enumerate
    have isT : Heap.IsTuple (Shared.heap ⟨hp, gg, dr, tk, oo⟩) tp its := ⟨_, at_, rfl, nn, rfl⟩
    wp_walk using wpAny_loadPart' at_
    refine wpAny_stack_any fun _ => wpAny_pure ?_
    split
    · rename_i c _ _ _ _ _
      cases (c == Value.type "enumerate") <;>
      · wp_walk using wpAny_loadPart' at_, wpAny_pyIter_tuple isT
        exact ⟨_, rfl, h⟩
    · wp_walk using wpAny_loadPart' at_, wpAny_pyIter_tuple isT
      exact ⟨_, rfl, h⟩
theorem own_enum_call {prog : Program} {w : World} {A : Around} {E : Value → Shared → Prop} {st : Shared} {tp : Addr} {its : Array Value} {Q : Value → Shared → Prop} (isT : st.heap.IsTuple tp its)
    (h : ∀ hp : Heap, IsEnum hp (st.heap.objs.size + 1) st.heap.objs.size 0 .none → hp.IsTupleIter st.heap.objs.size tp 0 →
      (∀ b o, st.heap.get? b = some o → hp.get? b = some o) → Q (.ref (st.heap.objs.size + 1)) { st with heap := hp }) :
    wpAny (model prog w) A (call (.type "enumerate") [.ref tp]) Q E st := by
  obtain ⟨⟨cc, dd, dt, ss⟩, at_, hc, nn, hd⟩ := isT
  replace hc : cc = .type "tuple" := hc
  replace hd : dt = .seq its nn := hd
  subst hc hd
  refine callType_new F.called_enumerate (by decide) (F.typeCall_enumerate_1 _) (F.newCall_enumerate_1 _) (fun ob => F.args_object_init_2 ob _) F.entry_enumerate_new (own_enum_new tp its nn dd ss) ⟨at_, ?_⟩
  generalize hI : ({ cls := .type "tuple_iterator", data := .fields #[.ref tp, .int 0 0] } : Obj) = oI
  generalize hE : ({ cls := .type "enumerate", data := .fields #[.none, .bool false, .ref st.heap.objs.size, rawInt 0, .none, .none] } : Obj) = oE
  have sz : (st.heap.push oI).objs.size = st.heap.objs.size + 1 := Heap.size_push ..
  have nf : oE.isFreed = false := by subst hE; rfl
  have nI : oI.isFreed = false := by subst hI; rfl
  have gE : ((st.heap.push oI).push oE).get? (st.heap.objs.size + 1) = some oE := by
    have z := Heap.get?_push_size (st.heap.push oI) (o := oE) nf
    rwa [sz] at z
  have gI : ((st.heap.push oI).push oE).get? st.heap.objs.size = some oI := Heap.get?_push_of_some _ (Heap.get?_push_size _ nI)
  show _ ∧ _
  rw [sz]
  subst hE hI
  exact ⟨⟨_, gE, rfl⟩, h _ gE ⟨{ cls := .type "tuple_iterator", data := .fields #[.ref tp, .int 0 0] }, gI, rfl, rfl⟩ fun b o x => Heap.get?_push_of_some _ (Heap.get?_push_of_some _ x)⟩
end PySem
namespace Dn
open PySem L2 Evl PySem.Spec PyProof.Rows
/-- the tuple at a, each item in a new pair with its place -/
def IteT (K : PySem.W.Frag) (a : Addr) : It where
  go := fun i H => ∃ (xs : List V) (x : V), SqT K H a xs ∧ xs[i]? = some x
  yld := fun i H v H' => ∃ l x, v = .ref l ∧ H l = none ∧ H' = upd H l (.tup [.int (i : Nat), x]) ∧ ∀ xs, SqT K H a xs → xs[i]? = some x
  stop := fun i H => ∃ xs : List V, SqT K H a xs ∧ xs.length ≤ i
theorem turn_enT {P : Program} {w : World} {K : PySem.W.Frag} {elts : List Expr} {kk : Nat} {tpos : Pos} (a e it : Addr) :
    Turn P w K (.Tuple elts kk tpos) (IteT K a) [e, it] e (fun i h => (∃ old, IsEnum h e it ((i : Nat) : Int) old) ∧ h.IsTupleIter it a i ∧ e ≠ it) where
  mem := by simp
  obj := fun i h st b hb => by
    obtain ⟨⟨old, he⟩, ⟨o, ho, hc, hd⟩, _⟩ := st
    rcases (show b = e ∨ b = it by simpa using hb) with rfl | rfl
    · exact ⟨_, he, fun v q => nomatch q⟩
    · exact ⟨o, ho, fun v q => by rw [hd] at q; cases q⟩
  keep := fun i h h' ⟨⟨old, he⟩, hi, hne⟩ k => ⟨⟨old, k e (by simp) _ he⟩, hi.at fun o q => k it (by simp) o q, hne⟩
  item := by
    intro X hP hw hK hc i pins s σ H E I hf st hg
    subst hP hw hK
    obtain ⟨⟨old, he⟩, hit, hne⟩ := st
    obtain ⟨xs, x, hq, hx⟩ := hg
    obtain ⟨its, rv, isT, hz⟩ := I.tuple hq
    obtain ⟨u, hu, ru⟩ := rv.get hx
    have isT' : s.heap.IsTuple a its.toArray := isT
    have hil : it < s.heap.objs.size := by obtain ⟨_, q, _⟩ := hit; exact Heap.lt_size q
    have hel : e < s.heap.objs.size := Heap.lt_size he
    have ai : a ≠ it := fun z => by
      subst z
      obtain ⟨o1, q1, c1, _⟩ := isT'
      obtain ⟨o2, q2, c2, _⟩ := hit
      rw [q1] at q2; cases q2
      have z : Value.type "tuple" = Value.type "tuple_iterator" := (show _ = o1.cls from Eq.symm c1).trans c2
      injection z with z
      exact absurd z (by decide)
    have ae : e ≠ a := fun z => by
      subst z
      obtain ⟨o1, q1, c1, _⟩ := isT'
      rw [show s.heap.get? e = some _ from he] at q1; cases q1
      have z : Value.type "enumerate" = Value.type "tuple" := c1
      injection z with z
      exact absurd z (by decide)
    have lt : i < its.toArray.size := by
      have := (List.getElem?_eq_some_iff.mp hu).1
      simpa using this
    refine wpAny_pyNext_enum_itemD (Draws.tuple (A := X.A.in1) (show X.A.in1.handled = none from I.ok.hd hc) it a ai its.toArray) he ⟨hit, isT'⟩ lt hne (by simp [hne, ae]) fun y h' tk hy ho st' hT hsz hk => ?_
    have yu : y = u := by
      have z : its.toArray[i]? = some u := by simpa using hu
      rw [hy] at z; cases z; rfl
    subst yu
    refine ⟨_, rfl, wpAny_letOwnedTupleGo_enum (s := { s with heap := h', toks := tk + 1 }) ho fun h2 he2 sb => ?_⟩
    have hT2 : h2.get? s.heap.objs.size = some { cls := .type "tuple", data := .seq #[.int i tk, y] } := (sb.2 _ (Nat.ne_of_gt hel)).trans hT
    have kp : ∀ b ob, b ∉ [e, it] → s.heap.get? b = some ob → h2.get? b = some ob := fun b ob hb q => by
      have b1 : b ≠ e := fun z => hb (by simp [z])
      have b2 : b ≠ it := fun z => hb (by simp [z])
      exact (sb.2 b b1).trans (hk b ob b1 b2 q)
    have okT : ObjOk X.prog X.w (upd H s.heap.objs.size (.tup [.int (i : Nat), x])) h2 s.heap.objs.size (.tup [.int (i : Nat), x]) :=
      ⟨by show 2 ≤ sizeLine; decide, [.int i tk, y], .cons ⟨_, rfl⟩ (.cons ru .nil), ⟨_, hT2, rfl, _, rfl⟩⟩
    have I2 : Inv X pins σ (upd H s.heap.objs.size (.tup [.int (i : Nat), x])) { s with heap := h2, toks := tk + 1 } := I.turnedNew (ch := [e, it]) kp hf (Nat.le_refl _) okT
    refine ⟨.ref s.heap.objs.size, _, I2, rfl, ⟨_, x, rfl, I.hok.fresh (Nat.le_refl _), rfl, fun ys hys => by rw [I.tuple_inj hys hq]; exact hx⟩, ⟨⟨y, ?_⟩, st'.1.at fun o q => (sb.2 it (Ne.symm hne)).trans q, hne⟩, fun b hb => ?_⟩
    · have e1 : ((i + 1 : Nat) : Int) = (i : Int) + 1 := by omega
      rw [e1]; exact he2
    · have bl : b < s.heap.objs.size := by
        rcases (show b = e ∨ b = it by simpa using hb) with rfl | rfl
        · exact hel
        · exact hil
      rw [upd_ne (Nat.ne_of_lt bl)]
      exact (hf b hb).1
  done := by
    intro X hP hw hK hc i pins s σ H E I hf st hg
    subst hP hw hK
    obtain ⟨⟨old, he⟩, hit, hne⟩ := st
    obtain ⟨xs, hq, hx⟩ := hg
    obtain ⟨its, rv, isT, hz⟩ := I.tuple hq
    have isT' : s.heap.IsTuple a its.toArray := isT
    obtain ⟨f0, f1, f2, f3, f4, f5⟩ := hf it (by simp)
    have hl := rv.length
    have nx : its.toArray[i]? = none := by simp; omega
    have hT : s.TypeIs (.ref e) "enumerate" := ⟨_, he, rfl⟩
    show wpAny _ _ (pyNext (.ref e)) _ _ _
    unfold pyNext
    refine wpAny_bind (wpAny_attempt (wpAny_callSpecial?_slot (name := Str.ofString "__next__") hT F.slot_enumerate_next (wpAny_call_entry F.slot_enumerate_next hT F.entry_enumerate_next ?_ (F.args_enumerate_next_1 _))))
    show wpAny _ _ (field (.ref e) 2 >>= _) _ _ _
    refine wpAny_bind (wpAny_field he rfl (x := .ref it) rfl ?_)
    refine wpAny_bind (wpAny_nextOf_tuple_end (show X.A.in1.handled = none from I.ok.hd hc) hit isT' nx fun h' ex hs' hx' => ?_)
    obtain ⟨o, ho, hcl⟩ := hx'
    refine wpAny_bind (wpAny_isInstance (T := "StopIteration") (b := true) ⟨o, ho, hcl⟩ isSubtype_stop ?_)
    exact wpAny_pure ⟨rfl, I.turned (t' := s.toks) (fun b o hb q => hs' b o hb q) f0 f1 f3 f4 f5⟩
  self := fun A i s Q E st h => let ⟨⟨_, he⟩, _⟩ := st; wpAny_pyIter_enum he h
def iEnT0 (K : PySem.W.Frag) (ta : TA) : TI := fun σ H R => ta σ H fun vs H1 => ∃ a xs, vs = [.ref a] ∧ SqT K H1 a xs ∧ R (IteT K a) H1
theorem pi_enT {X : Cx} {e : Expr} {ta : TA} {p pos tpos : Pos} {elts : List Expr} {kk : Nat} (hg : Gl X "enumerate") (hm : X.mg "enumerate" = none) (ha : PA X [e] ta) (hs : starEach [e] X.env = [(false, eval e X.env)] := by rfl) :
    PI X (.Tuple elts kk tpos) (.Call (.Name "enumerate" p) [e] [] pos) (iEnT0 X.K ta) := by
  refine ⟨fun pins s σ H R I h => ?_⟩
  refine Call_ (ld_blt I hg hm boot_enumerate (PyProof.Rows.callWith_type1 (thn (ha.run pos pins s σ H _ I h) fun us s1 ⟨vs, H1, I1, r1, q1⟩ => ?_) hs rfl))
  obtain ⟨a, xs, ex, hq, q⟩ := q1
  subst ex
  obtain ⟨u, rfl, ru⟩ := vals1 r1
  cases ru
  obtain ⟨its, rv, isT, hz⟩ := I1.tuple hq
  refine own_enum_call (show s1.heap.IsTuple a its.toArray from isT) fun hp he hit hk => wpAny_pyIter_enum he ?_
  have I2 : Inv X pins σ H1 { s1 with heap := hp } := I1.kept (t' := s1.toks) hk
  refine ⟨s1.heap.objs.size + 1, [s1.heap.objs.size + 1, s1.heap.objs.size], _, _, H1, rfl, I2, turn_enT a (s1.heap.objs.size + 1) s1.heap.objs.size, ⟨⟨.none, he⟩, hit, Nat.succ_ne_self _⟩, fun b hb => ?_, q⟩
  have ge : s1.heap.objs.size ≤ b := by
    rcases (show b = s1.heap.objs.size + 1 ∨ b = s1.heap.objs.size by simpa using hb) with z | z <;> subst z
    · exact Nat.le_succ _
    · exact Nat.le_refl _
  exact I1.fpOk ge (I1.hok.fresh ge)
section
variable {X : Cx} {a : Expr} {fa : DE} {pos p : Pos}
def iEnT (f : DE) : DL := fun ρ Q => f ρ fun d ρ1 => match d with
  | .tuple ds => Q (enD ds) ρ1
  | _ => False
theorem ji_enumT {elts : List Expr} {kk : Nat} {tpos : Pos} (hm : X.mg "enumerate" = none) (ha : JE X a fa) (hg : Gl X "enumerate" := by rfl) (hs : starEach [a] X.env = [(false, eval a X.env)] := by rfl) : JI X (.Tuple elts kk tpos) (.Call (.Name "enumerate" p) [a] [] pos) (iEnT fa) := by
  obtain ⟨t, pt, kt⟩ := ha.ex
  refine ⟨_, pi_enT hg hm (pa_cons pt pa_nil hs) hs, fun T ρ σ H QD R r h q => kt T ρ σ H _ _ r h fun d ρ1 v H1 r1 p1 v1 h => ?_⟩
  cases v1 with
  | @tup a xs ds hp rr =>
    refine ⟨_, _, rfl, sqt_of hp, q _ _ _ _ r1 p1 ⟨fun H e => ⟨xs, ex_t e (lt_of hp), by rw [enD_len, rr.length]; exact Nat.le_refl _⟩, fun i d H hd e => ?_⟩ h⟩
    obtain ⟨g, hg, rfl⟩ := enD_get hd
    obtain ⟨u, hu, ru⟩ := rr.get hg
    refine ⟨⟨xs, u, ex_t e (lt_of hp), hu⟩, fun x H' y => ?_⟩
    obtain ⟨l, z, rfl, hl, rfl, y⟩ := y
    have := y xs (ex_t e (lt_of hp))
    rw [hu] at this; cases this
    exact ⟨Ex.new hl, fun O hO eo => rp_newT hO hl (.cons (.int _) (.cons (ru.mono eo) .nil))⟩
  | _ => exact False.elim h
end
end Dn
set_option Elab.async false
set_option linter.all false
set_option maxRecDepth 100000
set_option autoImplicit false
set_option maxHeartbeats 4000000
namespace Dn
open PySem L2 Evl PySem.Spec
section
variable {X : Cx} {a b c e : Expr} {fa fb fc : DE} {pos p : Pos} {es : List Expr} {x y : Str}
/-! ### owned lists by their content -/
def MO.getL : MO → Option (List D)
  | .lst ds => some ds
  | .par _ m => m.getL
  | _ => none
def MO.putL : MO → List D → MO
  | .par p _, ds => .par p (.lst ds)
  | _, ds => .lst ds
theorem getL_rp {K : PySem.W.Frag} {G : Hp} : ∀ {m : MO} {o : HO} {ds : List D}, RpO K G m o → m.getL = some ds → ∃ vs, o = .lst vs ∧ RpAll K G vs ds
  | .lst ds, o, es, h, e => by
    cases e
    cases o <;> first | exact False.elim h | exact ⟨_, rfl, h⟩
  | .par _ m, o, es, h, e => getL_rp (m := m) (by unfold RpO at h; exact h) e
  | .dct _, o, es, h, e => by cases e
  | .rng _, o, es, h, e => by cases e
theorem putL_rp {K : PySem.W.Frag} {G : Hp} {m : MO} {vs : List V} {ds : List D} (h : RpAll K G vs ds) : RpO K G (m.putL ds) (.lst vs) := by
  cases m <;> first | exact h | (unfold MO.putL RpO; exact h)
theorem putL_tag {K : PySem.W.Frag} {T : Addr → Prop} {ρ : Env} {σ : L2.St} {H : Hp} {i : Nat} {m : MO} {ds : List D} {p : Addr} (r : RS K T ρ σ H) (hm : ρ[i]? = some (some (SV.ow m))) (hp : σ[i]? = some (some (V.ref p))) : ∀ q m1, m.putL ds = .par q m1 → p = q := fun q m1 h => by
  cases m with
  | par q' m' => cases h; exact r.tag i _ _ p hm hp
  | _ => cases h
/-- what stands in slot i, if it is an owned list -/
def atO (ρ : Env) (i : Nat) : Option (List D) := match ρ[i]? with
  | some (some (.ow m)) => m.getL
  | _ => none
def setO (ρ : Env) (i : Nat) (ds : List D) : Env := match ρ[i]? with
  | some (some (.ow m)) => ρ.set i (some (.ow (m.putL ds)))
  | _ => ρ
theorem atO_some {ρ : Env} {i : Nat} {ds : List D} (h : atO ρ i = some ds) : ∃ m, ρ[i]? = some (some (SV.ow m)) ∧ m.getL = some ds := by
  unfold atO at h
  split at h
  · exact ⟨_, by assumption, h⟩
  · cases h
theorem RS.atO {K : PySem.W.Frag} {T : Addr → Prop} {ρ : Env} {σ : L2.St} {H : Hp} {i : Nat} {ds : List D} (r : RS K T ρ σ H) (h : Dn.atO ρ i = some ds) : ∃ m q vs, ρ[i]? = some (some (SV.ow m)) ∧ σ[i]? = some (some (V.ref q)) ∧ H q = some (.lst vs) ∧ RpAll K (hide (Hd T ρ σ) H) vs ds := by
  obtain ⟨m, hm, hg⟩ := atO_some h
  obtain ⟨q, o, h1, h2, h3⟩ := r.ow i m hm
  obtain ⟨vs, rfl, h4⟩ := getL_rp h3 hg
  exact ⟨m, q, vs, hm, h1, h2, h4⟩
theorem RS.setO {K : PySem.W.Frag} {T : Addr → Prop} {ρ : Env} {σ : L2.St} {H : Hp} {i : Nat} {m : MO} {q : Addr} {vs : List V} {ds : List D} (r : RS K T ρ σ H) (hm : ρ[i]? = some (some (SV.ow m))) (hq : σ[i]? = some (some (V.ref q))) (h : RpAll K (hide (Hd T ρ σ) H) vs ds) :
    RS K T (Dn.setO ρ i ds) σ (upd H q (.lst vs)) ∧ Po ρ σ H (Dn.setO ρ i ds) σ (upd H q (.lst vs)) := by
  unfold Dn.setO
  rw [hm]
  exact ⟨r.write hm hq (putL_rp h) (putL_tag r hm hq), .write hm hq⟩
theorem own_same {T : Addr → Prop} {ρ : Env} {σ : L2.St} {H : Hp} {i : Nat} {m m' : MO} {q : Addr} {o : HO} (hm : ρ[i]? = some (some (SV.ow m))) (hq : σ[i]? = some (some (V.ref q))) : Ex (hide (Hd T ρ σ) H) (hide (Hd T (ρ.set i (some (SV.ow m'))) σ) (upd H q o)) := (Po.write (m' := m') (o' := o) hm hq).fz

/-- x[i], x an owned list (a parameter, too) -/
def dIxP (i : Nat) (fb : DE) : DE := fun ρ Q => (atO ρ i).isSome = true ∧ fb ρ fun y ρ1 => ∃ ds j d, atO ρ1 i = some ds ∧ y = .int j ∧ atI ds j = some d ∧ Q d ρ1
theorem je_ixP {i : Nat} {px : Pos} (hN : X.N[i]? = some x) (hv : Vis X.env.scope x) (hb : JE X b fb) (hs : PlainIx b := by exact fun _ _ => rfl) (hd : (x == ("__debug__" : Str)) = false := by decide) (hcd : (x == ("__classdict__" : Str)) = false := by decide) :
    JE X (.Subscript (.Name x px) b pos) (dIxP i fb) := by
  obtain ⟨tb, pb, kb⟩ := hb.ex
  refine ⟨_, pe_ix ix_list (pe_var hN hv hd hcd) pb hs, fun T ρ σ H QD Q r h q => ?_⟩
  obtain ⟨h0, h⟩ := h
  obtain ⟨ds0, h0⟩ := Option.isSome_iff_exists.mp h0
  obtain ⟨m, l, vs, _, hl, _, _⟩ := r.atO h0
  refine ⟨_, hl, kb T ρ σ H _ _ r h fun y ρ1 v H1 r1 p1 v1 h => ?_⟩
  obtain ⟨ds, j, d, h1, rfl, h2, h3⟩ := h
  obtain ⟨m', l', vs', _, hl', ho', hr'⟩ := r1.atO h1
  rw [hl] at hl'; cases hl'
  obtain ⟨u, h4, h5⟩ := atI_rp hr' h2
  cases v1
  exact ⟨_, _, _, _, rfl, rfl, .inl (.inl ho'), h4, q _ _ _ _ r1 p1 h5 h3⟩
/-- x[i] = e -/
def sSub (i : Nat) (fi fe : DE) : DS := fun E ρ => fe ρ fun d ρ1 => (atO ρ1 i).isSome = true ∧ fi ρ1 fun k ρ2 => ∃ ds j m, atO ρ2 i = some ds ∧ k = .int j ∧ ixN ds.length j = some m ∧ E.nx (setO ρ2 i (ds.set m d))
theorem js_sub {i : Nat} {px ps : Pos} {f1 f2 : DE} (hN : X.N[i]? = some x) (hv : Vis X.env.scope x) (hi : JE X b f1) (he : JE X e f2) (hd : (x == ("__debug__" : Str)) = false := by decide) (hcd : (x == ("__classdict__" : Str)) = false := by decide)
    (ha : ∀ v, assign (.Subscript (.Name x px) b ps) X.env v = (do
      let ov ← holding [v] (eval (.Name x px) X.env); let iv ← holding [v, ov] (eval b X.env); standAt ps; holding [v, ov, iv] (setItem ov iv v); release [v, ov, iv] []) := by intro _; rfl)
    (hs : swapsWithSole [.Subscript (.Name x px) b ps] e pos.line X.env = pure false := by rfl) (hw : swappedStores [.Subscript (.Name x px) b ps] e X.env = pure none := by rfl) (h1 : (assignEach [.Subscript (.Name x px) b ps] X.env).map (·.2) = [assign (.Subscript (.Name x px) b ps) X.env] := by rfl) :
    JS X (.Assign [.Subscript (.Name x px) b ps] e pos) (sSub i f1 f2) := by
  obtain ⟨t1, p1, k1⟩ := hi.ex
  obtain ⟨t2, p2, k2⟩ := he.ex
  refine ⟨_, ps_asg p2 (pg_sub (pe_var hN hv hd hcd) p1 set_list ha) hs hw h1, fun T ρ σ H E D r h k => k2 T ρ σ H _ _ r h fun d ρ1 v H1 r1 q1 v1 h => ?_⟩
  obtain ⟨h0, h⟩ := h
  obtain ⟨ds0, h0⟩ := Option.isSome_iff_exists.mp h0
  obtain ⟨m, l, vs, _, hl, _, _⟩ := r1.atO h0
  refine ⟨_, hl, k1 T ρ1 σ H1 _ _ r1 h fun kk ρ2 w H2 r2 q2 v2 h => ?_⟩
  obtain ⟨ds, j, n, h2, rfl, h3, h4⟩ := h
  obtain ⟨m', l', vs', hm', hl', ho', hr'⟩ := r2.atO h2
  rw [hl] at hl'; cases hl'
  cases v2
  obtain ⟨r3, q3⟩ := r2.setO hm' hl (hr'.set n (v1.mono q2.fz))
  exact ⟨l, vs', j, n, rfl, rfl, ho', by rw [hr'.length]; exact h3, k.nx _ _ _ r3 ((q1.trans q2).trans q3) h4⟩
/-- methods of an owned list, as expressions -/
def dApp (i : Nat) (f : DE) : DE := fun ρ Q => (atO ρ i).isSome = true ∧ f ρ fun d ρ1 => ∃ ds, atO ρ1 i = some ds ∧ ds.length < 16777216 ∧ Q .none (setO ρ1 i (ds ++ [d]))
theorem je_app {i : Nat} {px pa pc : Pos} (hN : X.N[i]? = some x) (hv : Vis X.env.scope x) (he : JE X e fa) (hd : (x == ("__debug__" : Str)) = false := by decide) (hcd : (x == ("__classdict__" : Str)) = false := by decide)
    (hbase : attributeBase (.Name x px) "append" X.env (eval (.Name x px) X.env) = eval (.Name x px) X.env := by rfl)
    (hfew : ((backTo pc (starEach [e] X.env)).all (fun x => !x.1) && (backToKw pc (keywordEach [] X.env)).all (fun x => x.1.isSome) && decide ([e].length + ([] : List Keyword).length + (if ([] : List Keyword).isEmpty then 0 else 1) < 30)) = true := by rfl)
    (hline : (pa.endLine == pc.line) = true := by rfl) (hs : starEach [e] X.env = (false, eval e X.env) :: starEach [] X.env := by rfl) : JE X (.Call (.Attribute (.Name x px) "append" pa) [e] [] pc) (dApp i fa) := by
  obtain ⟨t, pt, kt⟩ := he.ex
  refine ⟨_, pe_bm PySem.F.plainAttrs_list PySem.F.slot_list_append PySem.F.type_list_append mt_append (pe_var hN hv hd hcd) (pa_cons pt pa_nil hs) hbase hfew hline hs, fun T ρ σ H QD Q r h q => ?_⟩
  obtain ⟨h0, h⟩ := h
  obtain ⟨ds0, h0⟩ := Option.isSome_iff_exists.mp h0
  obtain ⟨m, l, vs, _, hl, ho, _⟩ := r.atO h0
  refine ⟨_, hl, .inl ⟨rfl, _, .inl (.inl ho)⟩, kt T ρ σ H _ _ r h fun d ρ1 v H1 r1 p1 v1 h => ?_⟩
  obtain ⟨ds, h1, hz, h2⟩ := h
  obtain ⟨m', l', vs', hm', hl', ho', hr'⟩ := r1.atO h1
  rw [hl] at hl'; cases hl'
  obtain ⟨r3, q3⟩ := r1.setO hm' hl (hr'.append (.cons v1 .nil))
  exact ⟨l, vs', v, rfl, rfl, ho', by rw [hr'.length]; exact hz, q _ _ _ _ r3 (p1.trans q3) .non h2⟩
def dExt (i : Nat) (f : DE) : DE := fun ρ Q => (atO ρ i).isSome = true ∧ f ρ fun d ρ1 => ∃ ds es, atO ρ1 i = some ds ∧ d = .list es ∧ ds.length + es.length ≤ 16777216 ∧ Q .none (setO ρ1 i (ds ++ es))
theorem je_ext {i : Nat} {px pa pc : Pos} (hN : X.N[i]? = some x) (hv : Vis X.env.scope x) (he : JE X e fa) (hd : (x == ("__debug__" : Str)) = false := by decide) (hcd : (x == ("__classdict__" : Str)) = false := by decide)
    (hbase : attributeBase (.Name x px) "extend" X.env (eval (.Name x px) X.env) = eval (.Name x px) X.env := by rfl)
    (hfew : ((backTo pc (starEach [e] X.env)).all (fun x => !x.1) && (backToKw pc (keywordEach [] X.env)).all (fun x => x.1.isSome) && decide ([e].length + ([] : List Keyword).length + (if ([] : List Keyword).isEmpty then 0 else 1) < 30)) = true := by rfl)
    (hline : (pa.endLine == pc.line) = true := by rfl) (hs : starEach [e] X.env = (false, eval e X.env) :: starEach [] X.env := by rfl) : JE X (.Call (.Attribute (.Name x px) "extend" pa) [e] [] pc) (dExt i fa) := by
  obtain ⟨t, pt, kt⟩ := he.ex
  refine ⟨_, pe_bm PySem.F.plainAttrs_list PySem.F.slot_list_extend PySem.F.type_list_extend mt_extend (pe_var hN hv hd hcd) (pa_cons pt pa_nil hs) hbase hfew hline hs, fun T ρ σ H QD Q r h q => ?_⟩
  obtain ⟨h0, h⟩ := h
  obtain ⟨ds0, h0⟩ := Option.isSome_iff_exists.mp h0
  obtain ⟨m, l, vs, _, hl, ho, _⟩ := r.atO h0
  refine ⟨_, hl, .inl ⟨rfl, _, .inl (.inl ho)⟩, kt T ρ σ H _ _ r h fun d ρ1 v H1 r1 p1 v1 h => ?_⟩
  obtain ⟨ds, es, h1, rfl, hz, h2⟩ := h
  obtain ⟨m', l', vs', hm', hl', ho', hr'⟩ := r1.atO h1
  rw [hl] at hl'; cases hl'
  cases v1 with
  | lst hp rr =>
    obtain ⟨r3, q3⟩ := r1.setO hm' hl (hr'.append rr)
    exact ⟨l, _, vs', _, rfl, rfl, ho', at_of hp, by rw [hr'.length, rr.length]; exact hz, q _ _ _ _ r3 (p1.trans q3) .non h2⟩
def dPopAt (i : Nat) (f : DE) : DE := fun ρ Q => (atO ρ i).isSome = true ∧ f ρ fun k ρ1 => ∃ ds j n d, atO ρ1 i = some ds ∧ k = .int j ∧ 0 ≤ j ∧ j < ds.length ∧ n = j.toNat ∧ ds[n]? = some d ∧ ds.length ≤ 1000000 ∧ Q d (setO ρ1 i (ds.eraseIdx n))
theorem je_popAt {i : Nat} {px pa pc : Pos} (hN : X.N[i]? = some x) (hv : Vis X.env.scope x) (he : JE X e fa) (hd : (x == ("__debug__" : Str)) = false := by decide) (hcd : (x == ("__classdict__" : Str)) = false := by decide)
    (hbase : attributeBase (.Name x px) "pop" X.env (eval (.Name x px) X.env) = eval (.Name x px) X.env := by rfl)
    (hfew : ((backTo pc (starEach [e] X.env)).all (fun x => !x.1) && (backToKw pc (keywordEach [] X.env)).all (fun x => x.1.isSome) && decide ([e].length + ([] : List Keyword).length + (if ([] : List Keyword).isEmpty then 0 else 1) < 30)) = true := by rfl)
    (hline : (pa.endLine == pc.line) = true := by rfl) (hs : starEach [e] X.env = (false, eval e X.env) :: starEach [] X.env := by rfl) : JE X (.Call (.Attribute (.Name x px) "pop" pa) [e] [] pc) (dPopAt i fa) := by
  obtain ⟨t, pt, kt⟩ := he.ex
  refine ⟨_, pe_bm PySem.F.plainAttrs_list PySem.F.slot_list_pop PySem.F.type_list_pop mt_popAt (pe_var hN hv hd hcd) (pa_cons pt pa_nil hs) hbase hfew hline hs, fun T ρ σ H QD Q r h q => ?_⟩
  obtain ⟨h0, h⟩ := h
  obtain ⟨ds0, h0⟩ := Option.isSome_iff_exists.mp h0
  obtain ⟨m, l, vs, _, hl, ho, _⟩ := r.atO h0
  refine ⟨_, hl, .inl ⟨rfl, _, .inl (.inl ho)⟩, kt T ρ σ H _ _ r h fun d ρ1 v H1 r1 p1 v1 h => ?_⟩
  obtain ⟨ds, j, n, z, h1, rfl, j0, jl, hn, hz, hlen, h2⟩ := h
  obtain ⟨m', l', vs', hm', hl', ho', hr'⟩ := r1.atO h1
  rw [hl] at hl'; cases hl'
  cases v1
  obtain ⟨u, hu, ru⟩ := hr'.get hz
  obtain ⟨r3, q3⟩ := r1.setO hm' hl (hr'.erase n)
  have ix : seqIndex? j vs'.length = some n := by
    have hx : ixN vs'.length j = some n := by
      unfold ixN
      rw [if_pos j0, if_pos (by rw [hr'.length]; exact jl), hn]
    exact (ixN_seq hx).1
  exact ⟨l, vs', j, n, u, rfl, rfl, ho', by omega, by omega, ix, hu, q _ _ _ _ r3 (p1.trans q3) (ru.mono q3.fz) h2⟩
/-- an owned list's name as a value: from there on it stands as it is -/
def dVarF (i : Nat) : DE := fun ρ Q => match ρ[i]? with
  | some (some (.ow (.lst ds))) => Q (.list ds) (ρ.set i (some (.im (.list ds))))
  | _ => False
theorem je_varF {i : Nat} (hN : X.N[i]? = some x) (hv : Vis X.env.scope x) (hd : (x == ("__debug__" : Str)) = false := by decide) (hcd : (x == ("__classdict__" : Str)) = false := by decide) : JE X (.Name x pos) (dVarF i) := by
  refine ⟨_, pe_var hN hv hd hcd, fun T ρ σ H QD Q r h q => ?_⟩
  unfold dVarF at h
  split at h
  · rename_i ds e1
    have rf := r.freeze e1
    obtain ⟨v, hv, rv⟩ := rf.im i (.list ds) (List.getElem?_set_self (List.getElem?_eq_some_iff.mp e1).1)
    exact ⟨v, hv, q _ _ _ _ rf .freeze rv h⟩
  · exact False.elim h

/-! ### in, not in; {}; repr of truth values -/
def dIn (neg : Bool) : D → D → (D → Prop) → Prop := fun x y Q => ∃ ds, seqD y = some ds ∧ isSc x = true ∧ ds.all isSc = true ∧ Q (.bool (if neg then !(ds.any fun z => PyData.eqv z x) else ds.any fun z => PyData.eqv z x))
theorem flat_sc {K : PySem.W.Frag} {G : Hp} {v : V} {d : D} (r : Rp K G v d) (h : isSc d = true) : flatV v = true := by cases r <;> first | rfl | (simp [isSc] at h; done)
theorem flat_all {K : PySem.W.Frag} {G : Hp} : ∀ {vs : List V} {ds : List D}, RpAll K G vs ds → ds.all isSc = true → vs.all flatV = true
  | _, _, .nil, _ => rfl
  | _, _, .cons h r, c => by
    rw [List.all_cons, Bool.and_eq_true] at c ⊢
    exact ⟨flat_sc h c.1, flat_all r c.2⟩
theorem eqV_rp {K : PySem.W.Frag} {G G' : Hp} {v u : V} {d e : D} (r : Rp K G v d) (s : Rp K G' u e) (h1 : isSc d = true) (h2 : isSc e = true) : eqV v u = PyData.eqv d e := by
  cases r <;> first | (simp [isSc] at h1; done) | skip
  all_goals cases s <;> first | (simp [isSc] at h2; done) | simp [eqV, PyData.eqv]
theorem inV_rp {K : PySem.W.Frag} {G G' : Hp} {x : V} {d : D} (s : Rp K G' x d) (h1 : isSc d = true) : ∀ {vs : List V} {ds : List D}, RpAll K G vs ds → ds.all isSc = true → inV x vs = ds.any fun z => PyData.eqv z d
  | _, _, .nil, _ => rfl
  | _, _, .cons h r, c => by
    rw [List.all_cons, Bool.and_eq_true] at c
    show (eqV _ _ || inV _ _) = (_ || _)
    rw [eqV_rp h s c.1 h1, inV_rp s h1 r c.2]
theorem opd_in : OpD X (compareOp .In) (dIn false) := by
  refine ⟨_, op_in_seq, fun O H x y d e QD Q hO rx ry h k => ?_⟩
  obtain ⟨ds, h1, h2, h3, h4⟩ := h
  obtain ⟨q, xs, rfl, hs, rr⟩ := seq_rp ry h1
  exact ⟨_, _, rfl, hs, flat_sc rx h2, flat_all rr h3, k _ _ H (.refl H) (.bl _) (by rw [inV_rp rx h2 rr h3]; exact h4)⟩
theorem opd_notin : OpD X (compareOp .NotIn) (dIn true) := by
  refine ⟨_, op_notIn_seq, fun O H x y d e QD Q hO rx ry h k => ?_⟩
  obtain ⟨ds, h1, h2, h3, h4⟩ := h
  obtain ⟨q, xs, rfl, hs, rr⟩ := seq_rp ry h1
  exact ⟨_, _, rfl, hs, flat_sc rx h2, flat_all rr h3, k _ _ H (.refl H) (.bl _) (by rw [inV_rp rx h2 rr h3]; exact h4)⟩
theorem je_dict0 : JE X (.Dict [] [] pos) (dC (.dict [])) := by
  refine ⟨_, pe_dnewK, fun T ρ σ H QD Q r h q => ?_⟩
  intro l hl
  exact q _ _ _ _ (r.grow (Ex.new hl)) (.grow (Ex.new hl)) (.dct (hide_new (fun a => r.hdDom) hl) .nil rfl) h
def dRepB : List D → (D → Prop) → Prop
  | [.bool b] => fun Q => Q (.str (if b then "True" else "False"))
  | _ => fun _ => False
theorem calld_reprB : CallD X (.builtin "repr") dRepB := by
  refine ⟨fun xs H Q => ∃ b, xs = [V.bl b] ∧ Q (.str (if b then "True" else "False")) H, fun pins s σ H xs us Q I r h => ?_, fun O H vs ds QD Q hO r h k => ?_⟩
  · obtain ⟨b, rfl, q⟩ := h
    obtain ⟨u, rfl, ru⟩ := vals1 r
    cases ru
    exact PySem.P.repr_of_bool ⟨.str _, H, I.tok _, ⟨_, rfl⟩, q⟩
  · unfold dRepB at h
    split at h
    · obtain ⟨v, rfl, w⟩ := rp1 r
      cases w
      exact ⟨_, rfl, k _ _ H (.refl H) (.str _) h⟩
    · exact False.elim h
end
end Dn
set_option Elab.async false
set_option linter.all false
set_option maxRecDepth 100000
set_option autoImplicit false
set_option maxHeartbeats 4000000
namespace Dn
open PySem L2 Evl PySem.Spec PyProof.Rows
/-! ### what a def promises -/
/-- a def that changes nothing: S of the arguments' data and of what is wanted of the result -/
def spD (K : PySem.W.Frag) (n : Nat) (S : List D → (D → Prop) → Prop) : Sp := fun vs H Q _ => vs.length = n ∧ ∃ (T : Addr → Prop) (ds : List D) (QD : D → Prop), (∀ a, T a → H a ≠ none) ∧ RpAll K (hide T H) vs ds ∧ S ds QD ∧
  ∀ v d H', QD d → Ex H H' → Rp K (hide T H') v d → Q v H'
/-- a def that changes the list handed in first -/
def spM (K : PySem.W.Frag) (n : Nat) (S : List D → List D → (D → List D → Prop) → Prop) : Sp := fun vs H Q _ => vs.length = n ∧ ∃ (T : Addr → Prop) (l : Addr) (us : List V) (ws : List V) (ms : List D) (ds : List D) (QD : D → List D → Prop),
  vs = .ref l :: us ∧ (∀ a, T a → H a ≠ none) ∧ ¬ T l ∧ H l = some (.lst ws) ∧ RpAll K (hide (plus T l) H) ws ms ∧ RpAll K (hide (plus T l) H) us ds ∧ S ms ds QD ∧
  ∀ v d ms' ws' H', QD d ms' → (∀ a o, a ≠ l → H a = some o → H' a = some o) → H' l = some (.lst ws') → RpAll K (hide (plus T l) H') ws' ms' → Rp K (hide (plus T l) H') v d → Q v H'
section
variable {X : Cx} {a b c e : Expr} {fa fb fc : DE} {pos p : Pos} {es : List Expr} {x y : Str} {k : Nat} {f : Addr} {fd : FuncData} {ps : List Str} {n : Nat}
def dCallF (n : Nat) (S : List D → (D → Prop) → Prop) (g : DA) : DE := fun ρ Q => g ρ fun ds ρ1 => ds.length = n ∧ S ds fun z => Q z ρ1
theorem spD_of {K : PySem.W.Frag} {T : Addr → Prop} {ρ0 ρ : Env} {σ : L2.St} {H0 H : Hp} {vs : List V} {ds : List D} {S : List D → (D → Prop) → Prop} {QD : D → Env → Prop} {Q : VK} {E : XK} (r : RS K T ρ σ H) (q : Po ρ0 σ H0 ρ σ H) (rv : RpAll K (hide (Hd T ρ σ) H) vs ds) (hn : ds.length = n) (h : S ds fun z => QD z ρ)
    (k : ∀ d ρ' v H', RS K T ρ' σ H' → Po ρ0 σ H0 ρ' σ H' → Rp K (hide (Hd T ρ' σ) H') v d → QD d ρ' → Q v H') : spD K n S vs H Q E :=
  ⟨by rw [rv.length, hn], Hd T ρ σ, ds, _, fun a => r.hdDom, rv, h, fun v d H' hq e r2 => k d ρ v H' (r.grow e) (q.trans (.grow e)) r2 hq⟩
theorem je_call {S : List D → (D → Prop) → Prop} {g : DA} (F : FnOk X.prog X.w X.K X.mg X.base L2.CX0 k f fd ps (spD X.K n S)) (hr : Room k X.A) (hm : X.mg x = some (.ref f)) (hk : PySem.W.keepIn X.K (.ref f) = true) (hb : Binds X.K fd ps []) (ha : JA X (e :: es) g) (hg : Gl X x := by rfl)
    (hdb : (x == ("__debug__" : Str)) = false := by decide) (he : starEach (e :: es) X.env = (false, eval e X.env) :: starEach es X.env := by rfl) (hpl : (backTo pos (starEach es X.env)).any (·.1) = false := by rfl) : JE X (.Call (.Name x p) (e :: es) [] pos) (dCallF n S g) := by
  obtain ⟨t, pa, ka⟩ := ha.ex
  refine ⟨_, pe_call F hr hg hm hk hb .nil (E := fun _ _ _ => False) (fun _ _ _ _ _ _ _ h => h.elim) pa hdb he hpl, fun T ρ σ H QD Q r h q => ka T ρ σ H _ _ r h fun ds ρ1 vs H1 r1 p1 v1 h => ?_⟩
  rw [List.append_nil]
  exact spD_of r1 p1 v1 h.1 h.2 q
theorem je_call0 {S : List D → (D → Prop) → Prop} (F : FnOk X.prog X.w X.K X.mg X.base L2.CX0 k f fd ps (spD X.K n S)) (hr : Room k X.A) (hm : X.mg x = some (.ref f)) (hk : PySem.W.keepIn X.K (.ref f) = true) (hb : Binds X.K fd ps []) (hg : Gl X x := by rfl)
    (hdb : (x == ("__debug__" : Str)) = false := by decide) : JE X (.Call (.Name x p) [] [] pos) (dCallF n S aNil) := by
  refine ⟨_, pe_call0 F hr hg hm hk hb .nil (E := fun _ _ _ => False) (fun _ _ _ _ _ _ _ h => h.elim) hdb, fun T ρ σ H QD Q r h q => ?_⟩
  exact spD_of (E := fun _ _ _ => False) r .refl .nil h.1 h.2 q
def dCallM (i n : Nat) (S : List D → List D → (D → List D → Prop) → Prop) (g : DA) : DE := fun ρ Q => (atO ρ i).isSome = true ∧ g ρ fun ds ρ1 => ds.length + 1 = n ∧ ∃ ms, atO ρ1 i = some ms ∧ S ms ds fun d ms' => Q d (setO ρ1 i ms')
theorem plus_hd {T : Addr → Prop} {ρ : Env} {σ : L2.St} {l a : Addr} {i : Nat} {m : MO} (hm : ρ[i]? = some (some (SV.ow m))) (hl : σ[i]? = some (some (V.ref l))) (h : plus (fun a => Hd T ρ σ a ∧ a ≠ l) l a) : Hd T ρ σ a := by
  rcases h with h | h
  · subst h; exact .inr ⟨i, m, hm, hl⟩
  · exact h.1
theorem hd_plus {T : Addr → Prop} {ρ : Env} {σ : L2.St} {l a : Addr} (h : Hd T ρ σ a) : plus (fun a => Hd T ρ σ a ∧ a ≠ l) l a := by
  by_cases e : a = l
  · exact .inl e
  · exact .inr ⟨h, e⟩
theorem je_callM {i : Nat} {px : Pos} {S : List D → List D → (D → List D → Prop) → Prop} {g : DA} (F : FnOk X.prog X.w X.K X.mg X.base L2.CX0 k f fd ps (spM X.K n S)) (hr : Room k X.A) (hm : X.mg x = some (.ref f)) (hk : PySem.W.keepIn X.K (.ref f) = true) (hb : Binds X.K fd ps [])
    (hN : X.N[i]? = some y) (hv : Vis X.env.scope y) (ha : JA X es g) (hg : Gl X x := by rfl) (hd : (y == ("__debug__" : Str)) = false := by decide) (hcd : (y == ("__classdict__" : Str)) = false := by decide)
    (hdb : (x == ("__debug__" : Str)) = false := by decide) (he : starEach (Expr.Name y px :: es) X.env = (false, eval (Expr.Name y px) X.env) :: starEach es X.env := by rfl) (hpl : (backTo pos (starEach es X.env)).any (·.1) = false := by rfl) : JE X (.Call (.Name x p) (.Name y px :: es) [] pos) (dCallM i n S g) := by
  obtain ⟨t, pa, ka⟩ := ha.ex
  refine ⟨_, pe_call F hr hg hm hk hb .nil (E := fun _ _ _ => False) (fun _ _ _ _ _ _ _ h => h.elim) (pa_cons (pe_var hN hv hd hcd) pa he) hdb he hpl, fun T ρ σ H QD Q r h q => ?_⟩
  obtain ⟨h0, h⟩ := h
  obtain ⟨ds0, h0⟩ := Option.isSome_iff_exists.mp h0
  obtain ⟨m, l, vs, _, hl, _, _⟩ := r.atO h0
  refine ⟨_, hl, ka T ρ σ H _ _ r h fun ds ρ1 us H1 r1 p1 v1 h => ?_⟩
  obtain ⟨hn, ms, h1, h⟩ := h
  obtain ⟨m', l', ws, hm', hl', ho', hr'⟩ := r1.atO h1
  rw [hl] at hl'; cases hl'
  rw [List.append_nil]
  have e1 : Ex (hide (Hd T ρ1 σ) H1) (hide (plus (fun a => Hd T ρ1 σ a ∧ a ≠ l) l) H1) := hide_sub fun a w => plus_hd hm' hl w
  refine ⟨by simp [v1.length, hn], fun a => Hd T ρ1 σ a ∧ a ≠ l, l, us, ws, ms, ds, _, rfl, fun a w => r1.hdDom w.1, fun w => w.2 rfl, ho', hr'.mono e1, v1.mono e1, h, fun v d ms' ws' H' hq kp hl2 rm rv => ?_⟩
  -- the heap behind the call, as if the list had been written at once
  have e2 : Ex (hide (plus (fun a => Hd T ρ1 σ a ∧ a ≠ l) l) H') (hide (Hd T ρ1 σ) (upd H' l (.lst ws'))) := fun a o w => by
    obtain ⟨w1, w2⟩ := hide_some.1 w
    exact hide_some.2 ⟨fun z => w1 (hd_plus z), by rw [upd_ne (fun z => w1 (.inl z))]; exact w2⟩
  have back : upd H' l (.lst ws') = H' := by
    funext a
    by_cases z : a = l
    · subst z; rw [upd_same, hl2]
    · rw [upd_ne z]
  -- first the rest of the heap grows, then the list is written
  let Hm : Hp := fun a => if a = l then some (.lst ws) else H' a
  have eM : Ex H1 Hm := fun a o w => by
    show (if a = l then _ else _) = _
    by_cases z : a = l
    · subst z; rw [if_pos rfl, ← ho', w]
    · rw [if_neg z]; exact kp a o z w
  have rM := r1.grow eM
  have uM : upd Hm l (.lst ws') = H' := by
    funext a
    by_cases z : a = l
    · subst z; rw [upd_same, hl2]
    · rw [upd_ne z]; show (if a = l then _ else _) = _; rw [if_neg z]
  have e3 : Ex (hide (plus (fun a => Hd T ρ1 σ a ∧ a ≠ l) l) H') (hide (Hd T ρ1 σ) Hm) := fun a o w => by
    obtain ⟨w1, w2⟩ := hide_some.1 w
    refine hide_some.2 ⟨fun z => w1 (hd_plus z), ?_⟩
    show (if a = l then _ else _) = _
    rw [if_neg (fun z => w1 (.inl z))]; exact w2
  obtain ⟨r3, q3⟩ := rM.setO hm' hl (rm.mono e3)
  rw [uM] at r3 q3
  have pM : Po ρ σ H ρ1 σ Hm := p1.trans (.grow eM)
  exact q d _ v H' r3 (pM.trans q3) ((rv.mono e3).mono q3.fz) hq

/-! ### a def keeps its promise -/
def envD (ds : List D) (m : Nat) : Env := ds.map (fun d => some (SV.im d)) ++ List.replicate m none
theorem envD_get {ds : List D} {m i : Nat} {sv : SV} (h : (envD ds m)[i]? = some (some sv)) : ∃ d, ds[i]? = some d ∧ sv = .im d := by
  unfold envD at h
  rw [List.getElem?_append] at h
  split at h
  · rw [List.getElem?_map] at h
    obtain ⟨d, h1, h2⟩ := Option.map_eq_some_iff.mp h
    cases h2
    exact ⟨d, h1, rfl⟩
  · rw [List.getElem?_replicate] at h
    split at h <;> cases h
theorem envD_len {ds : List D} {m : Nat} : (envD ds m).length = ds.length + m := by unfold envD; simp
theorem start_get {N : List Str} {vs : List V} {i : Nat} {v : V} (h : vs[i]? = some v) : (L2.start N vs)[i]? = some (some v) := by
  unfold L2.start
  have hi := (List.getElem?_eq_some_iff.mp h).1
  rw [List.getElem?_append_left (by simp; exact hi), List.getElem?_map, h]
  rfl
theorem fn_D {P : Program} {w : World} {K : PySem.W.Frag} {mg : Str → Option Value} {base : Heap} {name qual : Str} {params : Arguments} {body : List Stmt} {scope : Scope} {N : List Str} {S : List D → (D → Prop) → Prop} {g : DS} (F : FunD K name qual params body scope [] [] f fd) (Sc : FnScope N ps scope)
    (hb : ∀ (cdv : Value) (A : Around) (outer : List PySem.Env) (s : Shared) (H : Hp) (E : XK), Room k (A.deeper (envOfC qual scope s.heap.objs.size f cdv)) → JSs (cxOf L2.CX0 P w K mg base N qual scope f cdv A outer s H E).nox body g)
    (hS : ∀ (ds : List D) (Q : D → Prop), ds.length = ps.length → S ds Q → g { nx := fun _ => Q .none, rt := fun d _ => Q d } (envD ds (N.length - ps.length))) : FnOk P w K mg base L2.CX0 (k + 1) f fd ps (spD K ps.length S) := by
  refine F.ok Sc (fun vs H Q E h => h.1) (fun cdv A outer s H vs Q E hr h => ?_)
  obtain ⟨t, pt, kt⟩ := (hb cdv A outer s H E hr).ex
  refine ⟨t, PSs.nox pt, ?_⟩
  obtain ⟨hl, T, ds, QD, hT, rv, hs, hq⟩ := h
  have hl2 : ds.length = ps.length := by rw [← rv.length, hl]
  have no : ∀ a, ¬ Own (envD ds (N.length - ps.length)) (L2.start N vs) a := fun a ⟨i, m, h1, _⟩ => by
    obtain ⟨d, _, z⟩ := envD_get h1
    cases z
  have e0 : Ex (hide T H) (hide (Hd T (envD ds (N.length - ps.length)) (L2.start N vs)) H) := hide_sub fun a w => w.elim id fun w => (no a w).elim
  have r0 : RS K T (envD ds (N.length - ps.length)) (L2.start N vs) H := by
    refine ⟨?_, fun i d h => ?_, fun i m h => ?_, fun i j m m' a h1 _ _ _ => ?_, fun a _ => no a, hT, fun i q m a h1 _ => ?_⟩
    · rw [envD_len]; unfold L2.start; simp [hl, hl2]
    · obtain ⟨d', h1, z⟩ := envD_get h
      cases z
      obtain ⟨v, h2, h3⟩ := rv.get h1
      exact ⟨v, start_get h2, h3.mono e0⟩
    · obtain ⟨d, _, z⟩ := envD_get h; cases z
    · obtain ⟨d, _, z⟩ := envD_get h1; cases z
    · obtain ⟨d, _, z⟩ := envD_get h1; cases z
  have kp : ∀ {ρ' : Env} {σ' : L2.St} {H' : Hp}, Po (envD ds (N.length - ps.length)) (L2.start N vs) H ρ' σ' H' → Ex H H' := fun q a o h => q.keep a o (no a) h
  refine kt T _ _ H _ _ r0 (hS ds QD hl2 hs) ⟨fun ρ' σ' H' r q h => hq .non .none H' h (kp q) .non, fun d ρ' σ' v H' r q rv h => hq v d H' h (kp q) (rv.mono (hide_sub fun a w => .inl w)), fun _ _ _ _ _ h => h.elim, fun _ _ _ _ _ h => h.elim⟩
theorem fn_M {P : Program} {w : World} {K : PySem.W.Frag} {mg : Str → Option Value} {base : Heap} {name qual : Str} {params : Arguments} {body : List Stmt} {scope : Scope} {N : List Str} {S : List D → List D → (D → List D → Prop) → Prop} {g : DS} (F : FunD K name qual params body scope [] [] f fd) (Sc : FnScope N ps scope)
    (hb : ∀ (cdv : Value) (A : Around) (outer : List PySem.Env) (s : Shared) (H : Hp) (E : XK), Room k (A.deeper (envOfC qual scope s.heap.objs.size f cdv)) → JSs (cxOf L2.CX0 P w K mg base N qual scope f cdv A outer s H E).nox body g)
    (hS : ∀ (l : Addr) (ms ds : List D) (Q : D → List D → Prop), ds.length + 1 = ps.length → S ms ds Q → g { nx := fun ρ => ∃ ms', ρ[0]? = some (some (.ow (.par l (.lst ms')))) ∧ Q .none ms', rt := fun d ρ => ∃ ms', ρ[0]? = some (some (.ow (.par l (.lst ms')))) ∧ Q d ms' } (some (.ow (.par l (.lst ms))) :: envD ds (N.length - ps.length))) :
    FnOk P w K mg base L2.CX0 (k + 1) f fd ps (spM K ps.length S) := by
  refine F.ok Sc (fun vs H Q E h => h.1) (fun cdv A outer s H vs Q E hr h => ?_)
  obtain ⟨t, pt, kt⟩ := (hb cdv A outer s H E hr).ex
  refine ⟨t, PSs.nox pt, ?_⟩
  obtain ⟨hl, T, l, us, ws, ms, ds, QD, rfl, hT, nT, ho, rm, rv, hs, hq⟩ := h
  have hl1 : us.length + 1 = ps.length := by simpa using hl
  have hl2 : ds.length + 1 = ps.length := by rw [← rv.length, hl1]
  generalize hρ : (some (SV.ow (.par l (.lst ms))) :: envD ds (N.length - ps.length) : Env) = ρ0
  have g0 : ∀ (i : Nat) (sv : SV), ρ0[i]? = some (some sv) → (i = 0 ∧ sv = .ow (.par l (.lst ms))) ∨ ∃ j d, i = j + 1 ∧ ds[j]? = some d ∧ sv = .im d := fun i sv h => by
    subst hρ
    cases i with
    | zero => simp at h; exact .inl ⟨rfl, h.symm⟩
    | succ j =>
      obtain ⟨d, h1, h2⟩ := envD_get (show (envD ds (N.length - ps.length))[j]? = _ by simpa using h)
      exact .inr ⟨j, d, rfl, h1, h2⟩
  have s0 : (L2.start N (.ref l :: us))[0]? = some (some (V.ref l)) := start_get rfl
  have own : ∀ a, Own ρ0 (L2.start N (.ref l :: us)) a → a = l := fun a ⟨i, m, h1, h2⟩ => by
    rcases g0 i _ h1 with ⟨rfl, _⟩ | ⟨_, _, _, _, z⟩
    · rw [s0] at h2; cases h2; rfl
    · cases z
  have e0 : Ex (hide (plus T l) H) (hide (Hd T ρ0 (L2.start N (.ref l :: us))) H) := hide_sub fun a w => w.elim .inr fun w => .inl (own a w)
  have r0 : RS K T ρ0 (L2.start N (.ref l :: us)) H := by
    refine ⟨?_, fun i d h => ?_, fun i m h => ?_, fun i j m m' a h1 h2 _ _ => ?_, fun a t w => ?_, hT, fun i q m a h1 h2 => ?_⟩
    · rw [← hρ]; unfold L2.start; simp [envD_len, ← hl2, rv.length]
    · rcases g0 i _ h with ⟨_, z⟩ | ⟨j, d', rfl, h1, z⟩
      · cases z
      · cases z
        obtain ⟨v, h2, h3⟩ := rv.get h1
        exact ⟨v, start_get (by simpa using h2), h3.mono e0⟩
    · rcases g0 i _ h with ⟨rfl, z⟩ | ⟨_, _, _, _, z⟩
      · cases z
        exact ⟨l, _, s0, ho, by unfold RpO; exact RpAll.mono e0 rm⟩
      · cases z
    · rcases g0 i _ h1 with ⟨rfl, _⟩ | ⟨_, _, _, _, z⟩
      · rcases g0 j _ h2 with ⟨rfl, _⟩ | ⟨_, _, _, _, z⟩
        · rfl
        · cases z
      · cases z
    · rw [own a w] at t; exact nT t
    · rcases g0 i _ h1 with ⟨rfl, z⟩ | ⟨_, _, _, _, z⟩
      · cases z; rw [s0] at h2; cases h2; rfl
      · cases z
  have kp : ∀ {ρ' : Env} {σ' : L2.St} {H' : Hp}, Po ρ0 (L2.start N (.ref l :: us)) H ρ' σ' H' → ∀ a o, a ≠ l → H a = some o → H' a = some o := fun q a o ne h => q.keep a o (fun w => ne (own a w)) h
  have fin : ∀ {ρ' : Env} {σ' : L2.St} {H' : Hp} {ms' : List D}, RS K T ρ' σ' H' → ρ'[0]? = some (some (SV.ow (.par l (.lst ms')))) → ∃ ws', H' l = some (.lst ws') ∧ RpAll K (hide (plus T l) H') ws' ms' ∧ Ex (hide (Hd T ρ' σ') H') (hide (plus T l) H') := fun {ρ' σ' H' ms'} r h => by
    obtain ⟨a, o, h1, h2, h3⟩ := r.ow 0 _ h
    obtain rfl := r.tag 0 _ _ a h h1
    obtain ⟨ws', rfl, h4⟩ := getL_rp (ds := ms') h3 rfl
    have e : Ex (hide (Hd T ρ' σ') H') (hide (plus T a) H') := hide_sub fun b w => w.elim (fun z => .inr ⟨0, _, h, by rw [z]; exact h1⟩) .inl
    exact ⟨ws', h2, h4.mono e, e⟩
  rw [← hρ] at *
  refine kt T _ _ H _ _ r0 (hS l ms ds QD hl2 hs) ⟨fun ρ' σ' H' r q h => ?_, fun d ρ' σ' v H' r q rv h => ?_, fun _ _ _ _ _ h => h.elim, fun _ _ _ _ _ h => h.elim⟩
  · obtain ⟨ms', h1, h2⟩ := h
    obtain ⟨ws', a1, a2, _⟩ := fin r h1
    exact hq .non .none ms' ws' H' h2 (kp q) a1 a2 .non
  · obtain ⟨ms', h1, h2⟩ := h
    obtain ⟨ws', a1, a2, a3⟩ := fin r h1
    exact hq v d ms' ws' H' h2 (kp q) a1 a2 (rv.mono a3)
end
end Dn
set_option Elab.async false
set_option linter.all false
set_option maxRecDepth 100000
set_option autoImplicit false
set_option maxHeartbeats 4000000
namespace Dn
open PySem L2 Evl PySem.Spec PyProof.Rows
section
variable {X : Cx} {a b c e : Expr} {fa fb fc : DE} {pos p : Pos} {es : List Expr} {x y : Str} {k : Nat} {f : Addr} {fd : FuncData} {ps : List Str} {n : Nat}
/-! ### walks over a list or a tuple, whichever it is -/
def iSq0 (K : PySem.W.Frag) (tl : TE) : TI := fun σ H R => tl σ H fun x H1 => ∃ a, x = .ref a ∧ (((∃ xs, SqL K H1 a xs) ∧ R (Itl K a) H1) ∨ ((∃ xs, SqT K H1 a xs) ∧ R (Itt K a) H1))
theorem pi_sq {tg l : Expr} {tl : TE} (hl : PE X l tl) : PI X tg l (iSq0 X.K tl) := by
  refine ⟨fun pins s σ H R I h => ?_⟩
  refine thn (hl.run pins s σ H _ I h) fun v s1 ⟨x, H1, I1, r1, q1⟩ => ?_
  obtain ⟨q, rfl, h⟩ := q1
  cases r1
  have fp : ∀ (o : Obj), ∀ bb ∈ [s1.heap.objs.size], FpOk X pins H1 bb := fun o bb hb => by
    have : bb = s1.heap.objs.size := by simpa using hb
    subst this
    exact I1.fpOk (Nat.le_refl _) (I1.hok.fresh (Nat.le_refl _))
  rcases h with ⟨⟨xs, hq⟩, h⟩ | ⟨⟨xs, hq⟩, h⟩
  · obtain ⟨its, rv, isL, hz⟩ := I1.list hq
    refine wpAny_pyIter_list isL.isList ?_
    exact ⟨s1.heap.objs.size, [s1.heap.objs.size], _, _, H1, rfl, I1.kept (t' := s1.toks) fun b o e => Heap.get?_push_of_some _ e, turn_list q _, ⟨_, Heap.get?_push_size _ rfl, rfl, rfl⟩, fp default, h⟩
  · obtain ⟨its, rv, isT, hz⟩ := I1.tuple hq
    refine wpAny_pyIter_tuple (show s1.heap.IsTuple q its.toArray from isT) ?_
    exact ⟨s1.heap.objs.size, [s1.heap.objs.size], _, _, H1, rfl, I1.kept (t' := s1.toks) fun b o e => Heap.get?_push_of_some _ e, turn_tuple q _, ⟨_, Heap.get?_push_size _ rfl, rfl, rfl⟩, fp default, h⟩
def iSq (f : DE) : DL := fun ρ Q => f ρ fun d ρ1 => ∃ ds, seqD d = some ds ∧ Q ds ρ1
theorem ji_sq {tg : Expr} (ha : JE X a fa) : JI X tg a (iSq fa) := by
  obtain ⟨t, pt, kt⟩ := ha.ex
  refine ⟨_, pi_sq pt, fun T ρ σ H QD R r h q => kt T ρ σ H _ _ r h fun d ρ1 v H1 r1 p1 v1 h => ?_⟩
  obtain ⟨ds, e, h⟩ := h
  cases v1
  case dct h1 h2 h3 => rw [h3, seq_dk] at e; cases e
  all_goals simp only [seqD, Option.some.injEq, reduceCtorEq] at e
  · subst e
    rename_i hp rr
    exact ⟨_, rfl, .inl ⟨⟨_, .inl (.inl (at_of hp))⟩, q _ _ _ _ r1 p1 (it_list (.inl (.inl hp)) rr) h⟩⟩
  · subst e
    rename_i hp rr
    exact ⟨_, rfl, .inr ⟨⟨_, sqt_of hp⟩, q _ _ _ _ r1 p1 (it_tup (lt_of hp) rr) h⟩⟩
  · subst e
    rename_i hp rr
    exact ⟨_, rfl, .inl ⟨⟨_, sql_of hp⟩, q _ _ _ _ r1 p1 (it_list hp rr) h⟩⟩
/-- a def that hands back a new list -/
def spL (K : PySem.W.Frag) (n : Nat) (S : List D → (List D → Prop) → Prop) : Sp := fun vs H Q _ => vs.length = n ∧ ∃ (T : Addr → Prop) (ds : List D) (QD : List D → Prop), (∀ a, T a → H a ≠ none) ∧ RpAll K (hide T H) vs ds ∧ S ds QD ∧
  ∀ l us es H', H l = none → H' l = some (.lst us) → QD es → Ex H H' → RpAll K (hide (plus T l) H') us es → Q (.ref l) H'
def lCall (n : Nat) (S : List D → (List D → Prop) → Prop) (g : DA) : DL := fun ρ Q => g ρ fun ds ρ1 => ds.length = n ∧ S ds fun es => Q es ρ1
theorem jl_call {S : List D → (List D → Prop) → Prop} {g : DA} (F : FnOk X.prog X.w X.K X.mg X.base L2.CX0 k f fd ps (spL X.K n S)) (hr : Room k X.A) (hm : X.mg x = some (.ref f)) (hk : PySem.W.keepIn X.K (.ref f) = true) (hb : Binds X.K fd ps []) (ha : JA X (e :: es) g) (hg : Gl X x := by rfl)
    (hdb : (x == ("__debug__" : Str)) = false := by decide) (he : starEach (e :: es) X.env = (false, eval e X.env) :: starEach es X.env := by rfl) (hpl : (backTo pos (starEach es X.env)).any (·.1) = false := by rfl) : JL X (.Call (.Name x p) (e :: es) [] pos) (lCall n S g) := by
  obtain ⟨t, pa, ka⟩ := ha.ex
  refine ⟨_, pe_call F hr hg hm hk hb .nil (E := fun _ _ _ => False) (fun _ _ _ _ _ _ _ h => h.elim) pa hdb he hpl, fun T ρ σ H QD Q r h q => ka T ρ σ H _ _ r h fun ds ρ1 vs H1 r1 p1 v1 h => ?_⟩
  rw [List.append_nil]
  refine ⟨by rw [v1.length, h.1], Hd T ρ1 σ, ds, _, fun a => r1.hdDom, v1, h.2, fun l us es H' hl hl' hq e rr => ?_⟩
  have r2 : RS X.K (plus T l) ρ1 σ H' := by
    have r3 := (r1.laid (o := .lst us) hl)
    refine r3.grow fun a o w => ?_
    by_cases z : a = l
    · subst z; rw [upd_same] at w; rw [hl', w]
    · rw [upd_ne z] at w; exact e a o w
  refine q es ρ1 l us H' (none_back p1 hl) hl' r2 (rr.mono (hide_sub fun a w => ?_)) (p1.trans (.grow e)) hq
  rcases w with (w | w) | w
  · exact .inl w
  · exact .inr (.inl w)
  · exact .inr (.inr w)
structure JSL (X : Cx) (st : List Stmt) (f : (List D → Prop) → Env → Prop) : Prop where
  ex : ∃ t, PSs X st t ∧ ∀ (T : Addr → Prop) (ρ : Env) (σ : L2.St) (H : Hp) (QD : List D → Prop) (D : Ends), RS X.K T ρ σ H → f QD ρ →
    (∀ es ρ' σ' l us H', H l = none → H' l = some (.lst us) → RS X.K (plus T l) ρ' σ' H' → RpAll X.K (hide (Hd (plus T l) ρ' σ') H') us es → Po ρ σ H ρ' σ' H' → QD es → D.rt (.ref l) H') → t D σ H
theorem jsl_ret {g : DL} (ha : JL X e g) : JSL X [.Return (some e) pos] (fun Q ρ => g ρ fun es _ => Q es) := by
  obtain ⟨t, pt, kt⟩ := ha.ex
  refine ⟨_, pss_cons (ps_ret pt) pss_nil, fun T ρ σ H QD D r h k => kt T ρ σ H _ _ r h fun es ρ1 l us H1 n s r1 v1 p1 h => k es ρ1 σ l us H1 n s r1 v1 p1 h⟩
theorem jsl_cons {st : Stmt} {sts : List Stmt} {g : DS} {f : (List D → Prop) → Env → Prop} (h1 : JS X st g) (h2 : JSL X sts f) : JSL X (st :: sts) (fun Q ρ => g { nx := f Q, rt := fun _ _ => False } ρ) := by
  obtain ⟨t1, p1, k1⟩ := h1.ex
  obtain ⟨t2, p2, k2⟩ := h2.ex
  refine ⟨_, pss_cons p1 p2, fun T ρ σ H QD D r h k => k1 T ρ σ H _ _ r h ⟨fun ρ1 σ1 H1 r1 q1 h => k2 T ρ1 σ1 H1 _ _ r1 h fun es ρ' σ' l us H' n s r' v' p' hq => k es ρ' σ' l us H' (none_back q1 n) s r' v' (q1.trans p') hq, fun _ _ _ _ _ _ _ _ h => h.elim, fun _ _ _ _ _ h => h.elim, fun _ _ _ _ _ h => h.elim⟩⟩
/-! ### a def of the text and what it promises -/
def Ok (P : Program) (w : World) (K : PySem.W.Frag) (mg : Str → Option Value) (base : Heap) (x : Str) (ps : List Str) (k : Nat) (sp : Sp) : Prop :=
  ∃ f fd, FnOk P w K mg base L2.CX0 k f fd ps sp ∧ mg x = some (.ref f) ∧ PySem.W.keepIn K (.ref f) = true ∧ Binds K fd ps []
theorem je_fn {S : List D → (D → Prop) → Prop} {g : DA} (O : Ok X.prog X.w X.K X.mg X.base x ps k (spD X.K n S)) (hr : Room k X.A) (ha : JA X (e :: es) g) (hg : Gl X x := by rfl)
    (hdb : (x == ("__debug__" : Str)) = false := by decide) (he : starEach (e :: es) X.env = (false, eval e X.env) :: starEach es X.env := by rfl) (hpl : (backTo pos (starEach es X.env)).any (·.1) = false := by rfl) : JE X (.Call (.Name x p) (e :: es) [] pos) (dCallF n S g) := by
  obtain ⟨f, fd, F, hm, hk, hb⟩ := O
  exact je_call F hr hm hk hb ha hg hdb he hpl
theorem je_fn0 {S : List D → (D → Prop) → Prop} (O : Ok X.prog X.w X.K X.mg X.base x ps k (spD X.K n S)) (hr : Room k X.A) (hg : Gl X x := by rfl) (hdb : (x == ("__debug__" : Str)) = false := by decide) : JE X (.Call (.Name x p) [] [] pos) (dCallF n S aNil) := by
  obtain ⟨f, fd, F, hm, hk, hb⟩ := O
  exact je_call0 F hr hm hk hb hg hdb
theorem jl_fn {S : List D → (List D → Prop) → Prop} {g : DA} (O : Ok X.prog X.w X.K X.mg X.base x ps k (spL X.K n S)) (hr : Room k X.A) (ha : JA X (e :: es) g) (hg : Gl X x := by rfl)
    (hdb : (x == ("__debug__" : Str)) = false := by decide) (he : starEach (e :: es) X.env = (false, eval e X.env) :: starEach es X.env := by rfl) (hpl : (backTo pos (starEach es X.env)).any (·.1) = false := by rfl) : JL X (.Call (.Name x p) (e :: es) [] pos) (lCall n S g) := by
  obtain ⟨f, fd, F, hm, hk, hb⟩ := O
  exact jl_call F hr hm hk hb ha hg hdb he hpl
theorem je_fnM {i : Nat} {px : Pos} {S : List D → List D → (D → List D → Prop) → Prop} {g : DA} (O : Ok X.prog X.w X.K X.mg X.base x ps k (spM X.K n S)) (hr : Room k X.A) (hN : X.N[i]? = some y) (hv : Vis X.env.scope y) (ha : JA X es g) (hg : Gl X x := by rfl) (hd : (y == ("__debug__" : Str)) = false := by decide) (hcd : (y == ("__classdict__" : Str)) = false := by decide)
    (hdb : (x == ("__debug__" : Str)) = false := by decide) (he : starEach (Expr.Name y px :: es) X.env = (false, eval (Expr.Name y px) X.env) :: starEach es X.env := by rfl) (hpl : (backTo pos (starEach es X.env)).any (·.1) = false := by rfl) : JE X (.Call (.Name x p) (.Name y px :: es) [] pos) (dCallM i n S g) := by
  obtain ⟨f, fd, F, hm, hk, hb⟩ := O
  exact je_callM F hr hm hk hb hN hv ha hg hd hcd hdb he hpl
/-- a def of the text: its function object, its name -/
def Is (K : PySem.W.Frag) (mg : Str → Option Value) (x : Str) (st : Stmt) : Prop := ∃ f fd, FunD K x x (defArgs st) (defBody st) (defScope st) [] [] f fd ∧ mg x = some (.ref f)
abbrev BindsAs (x : Str) (st : Stmt) (ps : List Str) : Prop := ∀ (kV doc pm : Value) (an : Option Addr) (cdv ct : Value) (us : List Value), us.length = ps.length → bindArgs (PySem.W.fnOf x x (defArgs st) (defBody st) (defScope st) .none kV doc pm an cdv ct) ⟨us, []⟩ = pure (ps.zip us)
/-- the contexts in which a def's body runs -/
abbrev BodyCx (P : Program) (w : World) (K : PySem.W.Frag) (mg : Str → Option Value) (base : Heap) (x : Str) (st : Stmt) (N : List Str) (k : Nat) (J : Cx → Prop) : Prop :=
  ∀ (f : Addr) (cdv : Value) (A : Around) (outer : List PySem.Env) (s : Shared) (H : Hp) (E : XK), Room k (A.deeper (envOfC x (defScope st) s.heap.objs.size f cdv)) → J (cxOf L2.CX0 P w K mg base N x (defScope st) f cdv A outer s H E).nox
section
variable {P : Program} {w : World} {K : PySem.W.Frag} {mg : Str → Option Value} {base : Heap} {st : Stmt} {N : List Str}
theorem ok_D {S : List D → (D → Prop) → Prop} {g : DS} (F : Is K mg x st) (Sc : FnScope N ps (defScope st)) (bs : BindsAs x st ps) (hb : BodyCx P w K mg base x st N k fun X => JSs X (defBody st) g)
    (hS : ∀ (ds : List D) (Q : D → Prop), ds.length = ps.length → S ds Q → g { nx := fun _ => Q .none, rt := fun d _ => Q d } (envD ds (N.length - ps.length))) : Ok P w K mg base x ps (k + 1) (spD K ps.length S) := by
  obtain ⟨f, fd, F, hm⟩ := F
  exact ⟨f, fd, fn_D F Sc (fun cdv A outer s H E hr => hb f cdv A outer s H E hr) hS, hm, F.kp, F.bindsN bs⟩
theorem ok_M {S : List D → List D → (D → List D → Prop) → Prop} {g : DS} (F : Is K mg x st) (Sc : FnScope N ps (defScope st)) (bs : BindsAs x st ps) (hb : BodyCx P w K mg base x st N k fun X => JSs X (defBody st) g)
    (hS : ∀ (l : Addr) (ms ds : List D) (Q : D → List D → Prop), ds.length + 1 = ps.length → S ms ds Q → g { nx := fun ρ => ∃ ms', ρ[0]? = some (some (.ow (.par l (.lst ms')))) ∧ Q .none ms', rt := fun d ρ => ∃ ms', ρ[0]? = some (some (.ow (.par l (.lst ms')))) ∧ Q d ms' } (some (.ow (.par l (.lst ms))) :: envD ds (N.length - ps.length))) :
    Ok P w K mg base x ps (k + 1) (spM K ps.length S) := by
  obtain ⟨f, fd, F, hm⟩ := F
  exact ⟨f, fd, fn_M F Sc (fun cdv A outer s H E hr => hb f cdv A outer s H E hr) hS, hm, F.kp, F.bindsN bs⟩
theorem envD_rs {T : Addr → Prop} {H : Hp} {vs : List V} {ds : List D} {m : Nat} (hl : vs.length + m = N.length) (hT : ∀ a, T a → H a ≠ none) (rv : RpAll K (hide T H) vs ds) : RS K T (envD ds m) (L2.start N vs) H ∧ ∀ a, ¬ Own (envD ds m) (L2.start N vs) a := by
  have no : ∀ a, ¬ Own (envD ds m) (L2.start N vs) a := fun a ⟨i, mm, h1, _⟩ => by
    obtain ⟨d, _, z⟩ := envD_get h1
    cases z
  have e0 : Ex (hide T H) (hide (Hd T (envD ds m) (L2.start N vs)) H) := hide_sub fun a w => w.elim id fun w => (no a w).elim
  refine ⟨⟨?_, fun i d h => ?_, fun i m h => ?_, fun i j m m' a h1 _ _ _ => ?_, fun a _ => no a, hT, fun i q m a h1 _ => ?_⟩, no⟩
  · rw [envD_len]; unfold L2.start; simp [rv.length] at hl ⊢; omega
  · obtain ⟨d', h1, z⟩ := envD_get h
    cases z
    obtain ⟨v, h2, h3⟩ := rv.get h1
    exact ⟨v, start_get h2, h3.mono e0⟩
  · obtain ⟨d, _, z⟩ := envD_get h; cases z
  · obtain ⟨d, _, z⟩ := envD_get h1; cases z
  · obtain ⟨d, _, z⟩ := envD_get h1; cases z
theorem ok_L {S : List D → (List D → Prop) → Prop} {g : (List D → Prop) → Env → Prop} (F : Is K mg x st) (Sc : FnScope N ps (defScope st)) (bs : BindsAs x st ps) (hb : BodyCx P w K mg base x st N k fun X => JSL X (defBody st) g)
    (hS : ∀ (ds : List D) (Q : List D → Prop), ds.length = ps.length → S ds Q → g Q (envD ds (N.length - ps.length))) : Ok P w K mg base x ps (k + 1) (spL K ps.length S) := by
  obtain ⟨f, fd, F, hm⟩ := F
  refine ⟨f, fd, ?_, hm, F.kp, F.bindsN bs⟩
  refine F.ok Sc (fun vs H Q E h => h.1) (fun cdv A outer s H vs Q E hr h => ?_)
  obtain ⟨t, pt, kt⟩ := (hb f cdv A outer s H E hr).ex
  refine ⟨t, PSs.nox pt, ?_⟩
  obtain ⟨hl, T, ds, QD, hT, rv, hs, hq⟩ := h
  have hl2 : ds.length = ps.length := by rw [← rv.length, hl]
  have hN : ps.length ≤ N.length := by have := congrArg List.length Sc.pre; rw [List.length_take] at this; omega
  obtain ⟨r0, no⟩ := envD_rs (m := N.length - ps.length) (N := N) (by omega) hT rv
  refine kt T _ _ H _ _ r0 (hS ds QD hl2 hs) fun es ρ' σ' l us H' n s r' v' p' h => ?_
  exact hq l us es H' n s h (fun a o w => p'.keep a o (no a) w) (v'.mono (hide_sub fun a w => .inl w))
end
end
end Dn
set_option Elab.async false
set_option linter.all false
set_option maxRecDepth 100000
set_option autoImplicit false
set_option maxHeartbeats 4000000
namespace Dn
open PySem L2 Evl PySem.Spec PyProof.Rows
section
variable {X : Cx} {a b c e : Expr} {fa fb fc : DE} {pos p : Pos} {es : List Expr} {x y : Str}
theorem je_v (i : Nat) (hN : X.N[i]? = some x := by rfl) (hv : Vis X.env.scope x := by first | exact Or.inl rfl | exact Or.inr (Or.inl rfl) | exact Or.inr (Or.inr rfl)) (hd : (x == ("__debug__" : Str)) = false := by decide) (hcd : (x == ("__classdict__" : Str)) = false := by decide) : JE X (.Name x pos) (dVar i) := je_var hN hv hd hcd
theorem je_vF (i : Nat) (hN : X.N[i]? = some x := by rfl) (hv : Vis X.env.scope x := by first | exact Or.inl rfl | exact Or.inr (Or.inl rfl) | exact Or.inr (Or.inr rfl)) (hd : (x == ("__debug__" : Str)) = false := by decide) (hcd : (x == ("__classdict__" : Str)) = false := by decide) : JE X (.Name x pos) (dVarF i) := je_varF hN hv hd hcd
theorem jg_n (i : Nat) {vs : List Nat} (hN : X.N.Nodup) (hi : X.N[i]? = some x := by rfl) (hx : Loc X.env.scope x := by first | exact Or.inl rfl | exact Or.inr rfl) (hv : i ∈ vs := by decide) (hf : X.fn x = true ∨ X.env.scope.names.lookup x = some .local := by first | exact Or.inl rfl | exact Or.inr rfl) : JG X (.Name x pos) vs (gNm i) := jg_name hN hi hx hv hf
theorem jt_cmpO {op : D → D → (D → Prop) → Prop} {i : Nat} {py : Pos} {o : CmpOp} (ho : OpD X (compareOp o) op) (hN : X.N[i]? = some y) (hy : Vis X.env.scope y) (hb : JE X b fb) (hm : behindInMarks o b = false)
    (hd : (y == ("__debug__" : Str)) = false := by decide) (hcd : (y == ("__classdict__" : Str)) = false := by decide) : JT X (.Compare (.Name y py) [o] [b] pos) (dTst (dBinO i op fb)) := by
  obtain ⟨r, h1, h2⟩ := ho.ex
  obtain ⟨tb, pb, kb⟩ := hb.ex
  refine ⟨_, pt_cmpR h1 (pe_var hN hy hd hcd) pb hm, fun T ρ σ H QD Q r h q => ?_⟩
  obtain ⟨⟨m, hm⟩, h⟩ := h
  obtain ⟨a, o, ha, _, _⟩ := r.ow i m hm
  refine ⟨_, ha, kb T ρ σ H _ _ r h fun y ρ1 v H1 r1 p1 v1 h => ?_⟩
  split at h
  · rename_i ds e1
    have rf := r1.freeze e1
    obtain ⟨u, hu, ru⟩ := rf.im i (.list ds) (List.getElem?_set_self (List.getElem?_eq_some_iff.mp e1).1)
    rw [ha] at hu; cases hu
    refine h2 _ H1 _ _ _ _ _ _ (fun a => rf.hdDom) ru (v1.mono hd_freeze) h fun z w H' e v2 h => ?_
    cases v2 with
    | bl b => exact ⟨b, rfl, q _ _ _ (r1.grow e) (p1.trans (.grow e)) h.2⟩
    | _ => exact False.elim h.2
  · exact False.elim h
theorem jt_chain {o o' : CmpOp} {op op' : D → D → (D → Prop) → Prop} (ho : OpD X (compareOp o) op) (ho' : OpD X (compareOp o') op') (ha : JE X a fa) (hb : JE X b fb) (hc : JE X c fc) (hm : lastMarks [o, o'] [b, c] = false := by with_unfolding_all rfl) :
    JT X (.Compare a [o, o'] [b, c] pos) (dTst (dChain op op' fa fb fc)) := by
  obtain ⟨r, h1, h2⟩ := ho.ex
  obtain ⟨r', h1', h2'⟩ := ho'.ex
  obtain ⟨ta, pa, ka⟩ := ha.ex
  obtain ⟨tb, pb, kb⟩ := hb.ex
  obtain ⟨tc, pc, kc⟩ := hc.ex
  refine ⟨_, pt_chain h1 h1' pa pb pc hm, fun T ρ σ H QD Q r h k => ?_⟩
  refine ka T ρ σ H _ _ r h fun d ρ1 v H1 r1 p1 v1 h => ?_
  refine kb T ρ1 σ H1 _ _ r1 h fun e ρ2 w H2 r2 p2 v2 h => ?_
  refine h2 (Hd T ρ2 σ) H2 v w d e _ _ (fun a => r2.hdDom) (v1.mono p2.fz) v2 h fun z u H3 e3 v3 h => ?_
  have r3 := r2.grow e3
  have p3 : Po ρ2 σ H2 ρ2 σ H3 := .grow e3
  cases v3 with
  | bl q =>
    refine ⟨q, rfl, ?_⟩
    cases q with
    | false => exact ⟨false, rfl, k _ _ _ r3 ((p1.trans p2).trans p3) h⟩
    | true =>
      rw [if_pos rfl]
      refine kc T ρ2 σ H3 _ _ r3 h fun g ρ4 y H4 r4 p4 v4 h => ?_
      refine h2' (Hd T ρ4 σ) H4 w y e g _ _ (fun a => r4.hdDom) ((v2.mono p3.fz).mono p4.fz) v4 h fun z u H5 e5 v5 h => ?_
      cases v5 with
      | bl b => exact ⟨b, rfl, k b ρ4 H5 (r4.grow e5) (((p1.trans p2).trans p3).trans (p4.trans (.grow e5))) h⟩
      | _ => exact False.elim h
  | _ => exact False.elim h
/-- a + b of lists, as a new list -/
def lCat (fa fb : DE) : DL := fun ρ Q => fa ρ fun d ρ1 => fb ρ1 fun e ρ2 => ∃ xs ys, d = .list xs ∧ e = .list ys ∧ xs.length + ys.length ≤ 16777216 ∧ Q (xs ++ ys) ρ2
theorem jl_cat (ha : JE X a fa) (hb : JE X b fb) : JL X (.BinOp a .Add b pos) (lCat fa fb) := by
  obtain ⟨ta, pa, ka⟩ := ha.ex
  obtain ⟨tb, pb, kb⟩ := hb.ex
  refine ⟨_, pe_op op_cat pa pb, fun T ρ σ H QD Q r h q => ka T ρ σ H _ _ r h fun d ρ1 v H1 r1 p1 v1 h => kb T ρ1 σ H1 _ _ r1 h fun e ρ2 w H2 r2 p2 v2 h => ?_⟩
  obtain ⟨xs, ys, rfl, rfl, hz, h⟩ := h
  have v1' := v1.mono p2.fz
  cases v1' with
  | lst hp rp =>
    cases v2 with
    | lst hq rq =>
      refine ⟨_, _, _, _, rfl, rfl, at_of hp, at_of hq, by rw [rp.length, rq.length]; exact hz, fun l hl => ?_⟩
      exact q _ _ l _ _ (none_back (p1.trans p2) hl) upd_same (r2.laid hl) ((rp.append rq).mono (hd_laid hl)) ((p1.trans p2).trans (.grow (Ex.new hl))) h
/-- enumerate of a list or a tuple -/
def iEn0 (K : PySem.W.Frag) (ta : TA) : TI := fun σ H R => ta σ H fun vs H1 => ∃ a, vs = [.ref a] ∧ (((∃ xs, SqL K H1 a xs) ∧ R (Ite K a) H1) ∨ ((∃ xs, SqT K H1 a xs) ∧ R (IteT K a) H1))
theorem pi_en {ta : TA} {tpos : Pos} {elts : List Expr} {kk : Nat} (hg : Gl X "enumerate") (hm : X.mg "enumerate" = none) (ha : PA X [e] ta) (hs : starEach [e] X.env = [(false, eval e X.env)] := by rfl) :
    PI X (.Tuple elts kk tpos) (.Call (.Name "enumerate" p) [e] [] pos) (iEn0 X.K ta) := by
  refine ⟨fun pins s σ H R I h => ?_⟩
  refine Call_ (ld_blt I hg hm boot_enumerate (PyProof.Rows.callWith_type1 (thn (ha.run pos pins s σ H _ I h) fun us s1 ⟨vs, H1, I1, r1, q1⟩ => ?_) hs rfl))
  obtain ⟨a, rfl, h⟩ := q1
  obtain ⟨u, rfl, ru⟩ := vals1 r1
  cases ru
  have fp : ∀ b ∈ [s1.heap.objs.size + 1, s1.heap.objs.size], FpOk X pins H1 b := fun b hb => by
    have ge : s1.heap.objs.size ≤ b := by
      rcases (show b = s1.heap.objs.size + 1 ∨ b = s1.heap.objs.size by simpa using hb) with z | z <;> subst z
      · exact Nat.le_succ _
      · exact Nat.le_refl _
    exact I1.fpOk ge (I1.hok.fresh ge)
  rcases h with ⟨⟨xs, hq⟩, h⟩ | ⟨⟨xs, hq⟩, h⟩
  · obtain ⟨its, rv, isL, hz⟩ := I1.list hq
    refine call_enumerate_list isL.isList fun hp he hit _ hk => wpAny_pyIter_enum he ?_
    have I2 : Inv X pins σ H1 { s1 with heap := hp } := I1.kept (t' := s1.toks) hk
    exact ⟨s1.heap.objs.size + 1, [s1.heap.objs.size + 1, s1.heap.objs.size], _, _, H1, rfl, I2, turn_enum a (s1.heap.objs.size + 1) s1.heap.objs.size, ⟨⟨.none, he⟩, hit, Nat.succ_ne_self _⟩, fp, h⟩
  · obtain ⟨its, rv, isT, hz⟩ := I1.tuple hq
    refine own_enum_call (show s1.heap.IsTuple a its.toArray from isT) fun hp he hit hk => wpAny_pyIter_enum he ?_
    have I2 : Inv X pins σ H1 { s1 with heap := hp } := I1.kept (t' := s1.toks) hk
    exact ⟨s1.heap.objs.size + 1, [s1.heap.objs.size + 1, s1.heap.objs.size], _, _, H1, rfl, I2, turn_enT a (s1.heap.objs.size + 1) s1.heap.objs.size, ⟨⟨.none, he⟩, hit, Nat.succ_ne_self _⟩, fp, h⟩
theorem it_enL {K : PySem.W.Frag} {G : Hp} {a : Addr} {xs : List V} {ds : List D} (hp : SqL K G a xs) (rr : RpAll K G xs ds) : ItOk K (Ite K a) G (enD ds) :=
  ⟨fun H e => ⟨xs, ex_l e hp, by rw [enD_len, rr.length]; exact Nat.le_refl _⟩, fun i d H hd e => by
    obtain ⟨g, hg, rfl⟩ := enD_get hd
    obtain ⟨u, hu, ru⟩ := rr.get hg
    refine ⟨⟨xs, u, ex_l e hp, hu⟩, fun x H' y => ?_⟩
    obtain ⟨l, z, rfl, hl, rfl, y⟩ := y
    have := y xs (ex_l e hp)
    rw [hu] at this; cases this
    exact ⟨Ex.new hl, fun O hO eo => rp_newT hO hl (.cons (.int _) (.cons (ru.mono eo) .nil))⟩⟩
theorem it_enT {K : PySem.W.Frag} {G : Hp} {a : Addr} {xs : List V} {ds : List D} (hp : SqT K G a xs) (rr : RpAll K G xs ds) : ItOk K (IteT K a) G (enD ds) :=
  ⟨fun H e => ⟨xs, ex_t e hp, by rw [enD_len, rr.length]; exact Nat.le_refl _⟩, fun i d H hd e => by
    obtain ⟨g, hg, rfl⟩ := enD_get hd
    obtain ⟨u, hu, ru⟩ := rr.get hg
    refine ⟨⟨xs, u, ex_t e hp, hu⟩, fun x H' y => ?_⟩
    obtain ⟨l, z, rfl, hl, rfl, y⟩ := y
    have := y xs (ex_t e hp)
    rw [hu] at this; cases this
    exact ⟨Ex.new hl, fun O hO eo => rp_newT hO hl (.cons (.int _) (.cons (ru.mono eo) .nil))⟩⟩
def iEn (f : DE) : DL := fun ρ Q => f ρ fun d ρ1 => ∃ ds, seqD d = some ds ∧ Q (enD ds) ρ1
theorem ji_en {elts : List Expr} {kk : Nat} {tpos : Pos} (hm : X.mg "enumerate" = none) (ha : JE X a fa) (hg : Gl X "enumerate" := by rfl) (hs : starEach [a] X.env = [(false, eval a X.env)] := by rfl) : JI X (.Tuple elts kk tpos) (.Call (.Name "enumerate" p) [a] [] pos) (iEn fa) := by
  obtain ⟨t, pt, kt⟩ := ha.ex
  refine ⟨_, pi_en hg hm (pa_cons pt pa_nil hs) hs, fun T ρ σ H QD R r h q => kt T ρ σ H _ _ r h fun d ρ1 v H1 r1 p1 v1 h => ?_⟩
  obtain ⟨ds, e, h⟩ := h
  cases v1
  case dct h1 h2 h3 => rw [h3, seq_dk] at e; cases e
  all_goals simp only [seqD, Option.some.injEq, reduceCtorEq] at e
  · subst e
    rename_i hp rr
    exact ⟨_, rfl, .inl ⟨⟨_, .inl (.inl (at_of hp))⟩, q _ _ _ _ r1 p1 (it_enL (.inl (.inl hp)) rr) h⟩⟩
  · subst e
    rename_i hp rr
    exact ⟨_, rfl, .inr ⟨⟨_, sqt_of hp⟩, q _ _ _ _ r1 p1 (it_enT (lt_of hp) rr) h⟩⟩
  · subst e
    rename_i hp rr
    exact ⟨_, rfl, .inl ⟨⟨_, sql_of hp⟩, q _ _ _ _ r1 p1 (it_enL hp rr) h⟩⟩
/-- products: one factor small, or both within a million bits -/
abbrev dMulA := dI2 (fun i j => CMul i j ∨ CMulW i j) fun i j => .int (i * j)
theorem opd_mulA : OpD X (binaryOp .Mult) dMulA := by
  refine ⟨_, .or op_mul op_mulW, fun O H x y d e QD Q hO rx ry h k => ?_⟩
  cases rx <;> cases ry <;> first | exact False.elim h | skip
  obtain ⟨h1, h2⟩ := h
  rcases h1 with h1 | h1
  · exact .inl ⟨_, _, rfl, rfl, h1, k _ _ H (.refl H) (.int _) h2⟩
  · exact .inr ⟨_, _, rfl, rfl, h1, k _ _ H (.refl H) (.int _) h2⟩
/-- n += e -/
def sAugI (i : Nat) (f : DE) : DS := fun E ρ => match ρ[i]? with
  | some (some (.im (.int n))) => f ρ fun d ρ1 => match d with
    | .int k => E.nx (ρ1.set i (some (.im (.int (n + k)))))
    | _ => False
  | _ => False
end
end Dn
set_option Elab.async false
set_option linter.all false
set_option maxRecDepth 100000
set_option autoImplicit false
set_option maxHeartbeats 4000000
/-! What readings over slots come to: loops, comprehensions, rows of ints. -/
namespace Dn
open PySem L2 Evl PySem.Spec PyProof.Rows
def dNever : DE := fun _ _ => False
theorem je_never {X : Cx} {e : Expr} : JE X e dNever := ⟨fun _ _ _ => False, ⟨fun _ _ _ _ _ _ h => h.elim⟩, fun _ _ _ _ _ _ _ h _ => h.elim⟩
theorem wpLc_cps {g : DG} {tt : DT} {te : DE} {vs : List Nat} {Q : List D → Env → Prop} (P : List D → List D → Env → Prop) {ds : List D} {ρ0 : Env} (h0 : P [] [] ρ0)
    (hs : ∀ (done : List D) (d : D) (rest acc : List D) (ρ : Env) (K : List D → Env → Prop), ds = done ++ d :: rest → P done acc ρ → (∀ acc' ρ', P (done ++ [d]) acc' ρ' → K acc' ρ') →
      acc.length < 16777216 ∧ g d (wipeD ρ vs) fun ρ1 => tt ρ1 fun b ρ2 => if b = true then te ρ2 fun y ρ3 => K (acc ++ [y]) (wipeD ρ3 vs) else K acc (wipeD ρ2 vs))
    (he : ∀ acc ρ, P ds acc ρ → Q acc ρ) : wpLc g tt te vs Q ds [] ρ0 := by
  have aux : ∀ (rest done acc : List D) (ρ : Env), ds = done ++ rest → P done acc ρ → wpLc g tt te vs Q rest acc ρ := by
    intro rest
    induction rest with
    | nil => intro done acc ρ e p; rw [List.append_nil] at e; subst e; exact he acc ρ p
    | cons d rest ih =>
      intro done acc ρ e p
      exact hs done d rest acc ρ _ e p fun acc' ρ' p' => ih (done ++ [d]) acc' ρ' (by rw [e]; simp) p'
  exact aux ds [] [] ρ0 rfl h0
/-- each item by itself, the slots left as they are -/
theorem wpLc_map {g : DG} {tt : DT} {te : DE} {vs : List Nat} {Q : List D → Env → Prop} (h : D → D) {ds : List D} {ρ0 : Env} (hl : ds.length < 16777216) (hw : wipeD ρ0 vs = ρ0)
    (hs : ∀ d, d ∈ ds → ∀ (K : D → Env → Prop), (∀ ρ3, wipeD ρ3 vs = ρ0 → K (h d) ρ3) → g d ρ0 fun ρ1 => tt ρ1 fun b ρ2 => if b = true then te ρ2 fun y ρ3 => K y ρ3 else False)
    (hf : ∀ d ρ1, d ∈ ds → tt ρ1 = fun K => K true ρ1) (he : Q (ds.map h) ρ0) : wpLc g tt te vs Q ds [] ρ0 := by
  refine wpLc_cps (fun done acc ρ => acc = done.map h ∧ ρ = ρ0) ⟨rfl, rfl⟩ (fun done d rest acc ρ K e p k => ?_) (fun acc ρ p => by obtain ⟨rfl, rfl⟩ := p; exact he)
  obtain ⟨rfl, rfl⟩ := p
  have hm : d ∈ ds := by rw [e]; simp
  refine ⟨by rw [List.length_map]; have := congrArg List.length e; simp at this; omega, ?_⟩
  rw [hw]
  have z := hs d hm (fun y ρ3 => K (done.map h ++ [y]) (wipeD ρ3 vs)) fun ρ3 w => by rw [w]; exact k _ _ ⟨by simp, rfl⟩
  have e2 : (fun ρ1 => tt ρ1 fun b ρ2 => if b = true then te ρ2 fun y ρ3 => K (done.map h ++ [y]) (wipeD ρ3 vs) else False) = fun ρ1 => tt ρ1 fun b ρ2 => if b = true then te ρ2 fun y ρ3 => K (done.map h ++ [y]) (wipeD ρ3 vs) else K (done.map h) (wipeD ρ2 vs) := by
    funext ρ1
    rw [hf d ρ1 hm]
    simp
  rw [← e2]
  exact z
/-- items that pass a test -/
theorem wpLc_fil {g : DG} {tt : DT} {te : DE} {vs : List Nat} {Q : List D → Env → Prop} (p : D → Bool) (h : D → D) {ds : List D} {ρ0 : Env} (hl : ds.length < 16777216) (hw : wipeD ρ0 vs = ρ0)
    (hs : ∀ d, d ∈ ds → ∀ (K : D → Env → Prop) (N : Env → Prop), (p d = true → ∀ ρ3, wipeD ρ3 vs = ρ0 → K (h d) ρ3) → (p d = false → ∀ ρ3, wipeD ρ3 vs = ρ0 → N ρ3) → g d ρ0 fun ρ1 => tt ρ1 fun b ρ2 => if b = true then te ρ2 fun y ρ3 => K y ρ3 else N ρ2)
    (he : Q ((ds.filter p).map h) ρ0) : wpLc g tt te vs Q ds [] ρ0 := by
  refine wpLc_cps (fun done acc ρ => acc = (done.filter p).map h ∧ ρ = ρ0) ⟨rfl, rfl⟩ (fun done d rest acc ρ K e q k => ?_) (fun acc ρ q => by obtain ⟨rfl, rfl⟩ := q; exact he)
  obtain ⟨rfl, rfl⟩ := q
  have hm : d ∈ ds := by rw [e]; simp
  refine ⟨?_, ?_⟩
  · rw [List.length_map]
    have h1 := List.length_filter_le p done
    have := congrArg List.length e
    simp at this
    omega
  · rw [hw]
    refine hs d hm (fun y ρ3 => K ((done.filter p).map h ++ [y]) (wipeD ρ3 vs)) (fun ρ2 => K ((done.filter p).map h) (wipeD ρ2 vs)) (fun hp ρ3 w => ?_) (fun hp ρ3 w => ?_)
    · rw [w]; exact k _ _ ⟨by rw [List.filter_append, List.filter_cons_of_pos (by exact hp)]; simp, rfl⟩
    · rw [w]; exact k _ _ ⟨by rw [List.filter_append, List.filter_cons_of_neg (by simp [hp])]; simp, rfl⟩
theorem wpFor_cps {g : DG} {body : DS} {E : DEnds} (P : List D → Env → Prop) {ds : List D} {ρ0 : Env} (h0 : P [] ρ0)
    (hs : ∀ (done : List D) (d : D) (rest : List D) (ρ : Env) (K : Env → Prop), ds = done ++ d :: rest → P done ρ → (∀ ρ', P (done ++ [d]) ρ' → K ρ') → g d ρ fun ρ1 => body { nx := K, ct := K, bk := E.nx, rt := E.rt } ρ1)
    (he : ∀ ρ, P ds ρ → E.nx ρ) : wpFor g body E ds ρ0 := by
  have aux : ∀ (rest done : List D) (ρ : Env), ds = done ++ rest → P done ρ → wpFor g body E rest ρ := by
    intro rest
    induction rest with
    | nil => intro done ρ e p; rw [List.append_nil] at e; subst e; exact he ρ p
    | cons d rest ih =>
      intro done ρ e p
      exact hs done d rest ρ _ e p fun ρ' p' => ih (done ++ [d]) ρ' (by rw [e]; simp) p'
  exact aux ds [] ρ0 rfl h0
/-- a search that returns what it finds first -/
theorem wpFor_find {g : DG} {body : DS} {N bk ct : Env → Prop} {Q : D → Prop} {ds : List D} {ρ0 : Env} (f : D → Option D) (I : Env → Prop) (h0 : I ρ0)
    (hs : ∀ d, d ∈ ds → ∀ (ρ : Env) (K B : Env → Prop), I ρ → (∀ v, f d = some v → Q v) → (f d = none → ∀ ρ', I ρ' → K ρ') → g d ρ fun ρ1 => body { nx := K, ct := K, bk := B, rt := fun d _ => Q d } ρ1)
    (hf : ∀ v, ds.findSome? f = some v → Q v) (hn : ds.findSome? f = none → ∀ ρ, I ρ → N ρ) : wpFor g body { nx := N, rt := fun d _ => Q d, bk := bk, ct := ct } ds ρ0 := by
  induction ds generalizing ρ0 with
  | nil => exact hn rfl ρ0 h0
  | cons d ds ih =>
    refine hs d List.mem_cons_self ρ0 _ _ h0 (fun v e => hf v ?_) (fun e ρ' i => ih i (fun d hd => hs d (List.mem_cons_of_mem _ hd)) (fun v h => hf v ?_) fun h => hn ?_)
    · rw [List.findSome?_cons, e]
    · rw [List.findSome?_cons, e]; exact h
    · rw [List.findSome?_cons, e]; exact h

/-! ### tuples of ints, rows -/
def tI (ns : List Int) : D := .tuple (ns.map PyData.int)
def tR (rs : List (List Int)) : D := .tuple (rs.map tI)
theorem eqvAll_int : ∀ (a b : List Int), PyData.eqvAll (a.map PyData.int) (b.map PyData.int) = decide (a = b)
  | [], [] => by simp [PyData.eqvAll]
  | [], _ :: _ => by simp [PyData.eqvAll]
  | _ :: _, [] => by simp [PyData.eqvAll]
  | x :: a, y :: b => by
    simp only [List.map_cons, PyData.eqvAll, PyData.eqv, eqvAll_int a b]
    by_cases h : x = y <;> simp [h]
theorem eqv_tI (a b : List Int) : PyData.eqv (tI a) (tI b) = decide (a = b) := by unfold tI; simp only [PyData.eqv, eqvAll_int]
theorem eqvAll_tI : ∀ (a b : List (List Int)), PyData.eqvAll (a.map tI) (b.map tI) = decide (a = b)
  | [], [] => by simp [PyData.eqvAll]
  | [], _ :: _ => by simp [PyData.eqvAll]
  | _ :: _, [] => by simp [PyData.eqvAll]
  | x :: a, y :: b => by
    simp only [List.map_cons, PyData.eqvAll, eqv_tI, eqvAll_tI a b]
    by_cases h : x = y <;> simp [h]
theorem eqv_tR (a b : List (List Int)) : PyData.eqv (tR a) (tR b) = decide (a = b) := by unfold tR; simp only [PyData.eqv, eqvAll_tI]
theorem layAll_int : ∀ (a : List Int), PyData.canLayAll0 (a.map PyData.int) = true ∧ PyData.depthAll (a.map PyData.int) = 0
  | [] => by simp [PyData.canLayAll0, PyData.depthAll]
  | x :: a => by simp [PyData.canLayAll0, PyData.canLay0, PyData.depthAll, PyData.depth, layAll_int a]
theorem lay_tI (a : List Int) : (tI a).canLay0 = true ∧ (tI a).depth = 1 := by
  unfold tI; simp [PyData.canLay0, PyData.depth, layAll_int a]
theorem shaped_tI (a : List Int) : SeqAt.shaped (tI a) = true := by
  unfold SeqAt.shaped; simp [lay_tI a]
theorem layAll_tI : ∀ (a : List (List Int)), PyData.canLayAll0 (a.map tI) = true ∧ PyData.depthAll (a.map tI) ≤ 1
  | [] => by simp [PyData.canLayAll0, PyData.depthAll]
  | x :: a => by
    have h := layAll_tI a
    have h2 := lay_tI x
    simp [PyData.canLayAll0, PyData.depthAll, h2.1, h2.2, h.1]
    omega
theorem shaped_tR (a : List (List Int)) : SeqAt.shaped (tR a) = true := by
  have h := layAll_tI a
  unfold SeqAt.shaped tR
  simp [PyData.canLay0, PyData.depth, h.1]
  omega
theorem shaped_int (i : Int) : SeqAt.shaped (.int i) = true := rfl
theorem shaped_bool (i : Bool) : SeqAt.shaped (.bool i) = true := rfl
theorem atI_in {α : Type} {l : List α} {i : Int} {d : α} (h0 : 0 ≤ i) (h1 : i < l.length) : atI l i = some (l.getD i.toNat d) := by
  unfold atI ixN
  rw [if_pos h0, if_pos h1]
  have h2 : i.toNat < l.length := by omega
  simp [List.getD, List.getElem?_eq_getElem h2]
theorem ixI {r : List Int} {i : Int} {Q : D → Prop} (h0 : 0 ≤ i) (h1 : i < r.length) (h : Q (.int (r.getD i.toNat 0))) : dIx (tI r) (.int i) Q := by
  refine ⟨_, atI_in (d := .int 0) h0 (by simpa using h1), ?_⟩
  have h2 : i.toNat < r.length := by omega
  simp [List.getD, List.getElem?_eq_getElem h2] at h ⊢
  exact h
theorem ixR {r : List (List Int)} {i : Int} {Q : D → Prop} (h0 : 0 ≤ i) (h1 : i < r.length) (h : Q (tI (r.getD i.toNat []))) : dIx (tR r) (.int i) Q := by
  refine ⟨_, atI_in (d := tI []) h0 (by simpa using h1), ?_⟩
  have h2 : i.toNat < r.length := by omega
  simp [List.getD, List.getElem?_eq_getElem h2] at h ⊢
  exact h
theorem seq_tI (r : List Int) : seqD (tI r) = some (r.map PyData.int) := rfl
theorem seq_tR (r : List (List Int)) : seqD (tR r) = some (r.map tI) := rfl
/-- square rows of things -/
structure Rw (rs : List (List Int)) : Prop where
  pos : 1 ≤ rs.length
  most : rs.length ≤ 24
  row : ∀ r, r ∈ rs → r.length = rs.length ∧ ∀ x, x ∈ r → 0 ≤ x ∧ x < rs.length
def rc (rs : List (List Int)) (a b : Int) : Int := (rs.getD a.toNat []).getD b.toNat 0
theorem getD_mem {α : Type} {l : List α} {i : Nat} {d : α} (h : i < l.length) : l.getD i d ∈ l := by
  simp [List.getD, List.getElem?_eq_getElem h]
theorem Rw.len {rs : List (List Int)} (h : Rw rs) {a : Int} (a0 : 0 ≤ a) (a1 : a < rs.length) : (rs.getD a.toNat []).length = rs.length := (h.row _ (getD_mem (by omega))).1
theorem Rw.rc {rs : List (List Int)} (h : Rw rs) {a b : Int} (a0 : 0 ≤ a) (a1 : a < rs.length) (b0 : 0 ≤ b) (b1 : b < rs.length) : 0 ≤ rc rs a b ∧ rc rs a b < rs.length := by
  refine (h.row _ (getD_mem (d := []) (show a.toNat < rs.length by omega))).2 _ (getD_mem ?_)
  rw [h.len a0 a1]; omega
/-- rows[a][b] -/
theorem ixRC {rs : List (List Int)} {a b : Int} {Q : D → Prop} (h : Rw rs) (a0 : 0 ≤ a) (a1 : a < rs.length) (b0 : 0 ≤ b) (b1 : b < rs.length) (q : Q (.int (rc rs a b))) : dIx (tR rs) (.int a) fun d => dIx d (.int b) Q :=
  ixR a0 a1 (ixI b0 (by rw [h.len a0 a1]; exact b1) q)
def rgI (n : Nat) : List Int := (List.range n).map fun (k : Nat) => (k : Int)
theorem rgD_rgI (n : Nat) : rgD 0 (n : Int) = (rgI n).map PyData.int := by
  unfold rgD rgI
  simp
theorem mem_rgI {n : Nat} {x : Int} : x ∈ rgI n ↔ 0 ≤ x ∧ x < n := by
  unfold rgI
  simp only [List.mem_map, List.mem_range]
  constructor
  · rintro ⟨k, h, rfl⟩; omega
  · rintro ⟨h0, h1⟩; exact ⟨x.toNat, by omega, by omega⟩
theorem rgI_len (n : Nat) : (rgI n).length = n := by unfold rgI; simp
theorem rgI_get {n k : Nat} (h : k < n) : (rgI n)[k]? = some (k : Int) := by unfold rgI; simp [h]
end Dn
set_option Elab.async false
set_option linter.all false
set_option maxRecDepth 100000
set_option autoImplicit false
set_option maxHeartbeats 4000000
namespace Dn
open PySem L2 Evl PySem.Spec PyProof.Rows
def top (i : Nat) : Stmt := PySem.Challenge.pw_truenames_k05_papers_about_groups_judged.main.body.getD i (.Pass ⟨0, 0, 0, 0⟩)
structure Bl (mg : Str → Option Value) : Prop where
  len : mg "len" = none
  range : mg "range" = none
  tuple : mg "tuple" = none
  list : mg "list" = none
  isinstance : mg "isinstance" = none
  int : mg "int" = none
  bool : mg "bool" = none
  str : mg "str" = none
  abs : mg "abs" = none
  max : mg "max" = none
  min : mg "min" = none
  all : mg "all" = none
  any : mg "any" = none
  sum : mg "sum" = none
  sorted : mg "sorted" = none
  enumerate : mg "enumerate" = none
  repr : mg "repr" = none
  set : mg "set" = none
  dict : mg "dict" = none
  zip : mg "zip" = none
abbrev st_is_integer : Stmt := top 5
abbrev st_is_row : Stmt := top 6
abbrev st_is_square : Stmt := top 7
abbrev st_is_same : Stmt := top 8
abbrev st_is_told : Stmt := top 9
abbrev st_unit_of : Stmt := top 11
abbrev st_back_of : Stmt := top 12
abbrev st_broken_three : Stmt := top 13
abbrev st_group_paper : Stmt := top 16
abbrev st_is_group_paper : Stmt := top 17
abbrev st__check_rows : Stmt := top 18
abbrev st__law_dice : Stmt := top 20
abbrev st__law_roll : Stmt := top 21
abbrev st__law_pick : Stmt := top 22
abbrev st__law_mixed : Stmt := top 23
abbrev st__law_orders : Stmt := top 24
abbrev st__law_joined : Stmt := top 25
abbrev st__law_undone : Stmt := top 26
abbrev st__law_drawn_move : Stmt := top 27
abbrev st__law_places_of : Stmt := top 28
abbrev st__law_product_dots : Stmt := top 29
abbrev st__law_cyclic : Stmt := top 30
abbrev st__law_direct : Stmt := top 31
abbrev st__law_moves_rows : Stmt := top 32
abbrev st__law_turned_pairs : Stmt := top 33
abbrev st__law_quaternion_rows : Stmt := top 34
abbrev st__law_renamed_group : Stmt := top 35
abbrev st__law_group_rows : Stmt := top 36
abbrev st__law_falls : Stmt := top 37
abbrev st__law_group_fault : Stmt := top 38
abbrev st__law_with_entry : Stmt := top 39
abbrev st__law_near_group : Stmt := top 40
abbrev st__law_is_so : Stmt := top 41
abbrev st__law_papers : Stmt := top 42
abbrev st__law_odd_values : Stmt := top 43
abbrev st_law : Stmt := top 44
/-! ### what each def is to do -/
abbrev T60 : Int := 1000000000000000000000000000000000000000000000000000000000000
def isI : D → Bool
  | .int i => decide (-1000000000000000000000000000000000000000000000000000000000000 < i) && decide (i < 1000000000000000000000000000000000000000000000000000000000000)
  | _ => false
def isTh (n : Int) : D → Bool
  | .int i => (decide (-1000000000000000000000000000000000000000000000000000000000000 < i) && decide (i < 1000000000000000000000000000000000000000000000000000000000000)) && (decide (0 ≤ i) && decide (i < n))
  | _ => false
def isRow (m n : Int) : D → Bool
  | .tuple xs => decide ((xs.length : Int) = m) && xs.all (isTh n)
  | _ => false
def isStr (s : Str) : D → Bool
  | .str t => t == s
  | _ => false
def isTup1 (s : Str) : D → Bool
  | .tuple [x] => isStr s x
  | _ => false
def isTold (s : Str) (m n : Int) : D → Bool
  | .tuple (x :: r) => decide ((r.length : Int) = m) && (isStr s x && isRow m n (.tuple r))
  | _ => false
def okS (d : D) : Prop := ∀ t, d = .str t → SeqAt.shaped (.str t) = true
def okV (d : D) : Prop := ∀ xs, d = .tuple xs → xs.length ≤ 100000 ∧ ∀ x, x ∈ xs → okS x
def optD : Option Int → D
  | none => .none
  | some i => .int i
def isUnit (rs : List (List Int)) (e : Int) : Bool := decide (rs.getD e.toNat [] = rgI rs.length) && decide (rs.map (fun r => r.getD e.toNat 0) = rgI rs.length)
def unitOf (rs : List (List Int)) : Option Int := (rgI rs.length).find? (isUnit rs)
def backOf (rs : List (List Int)) (u t : Int) : Option Int := (rgI rs.length).find? fun b => decide (rc rs t b = u) && decide (rc rs b t = u)
def threeOf (rs : List (List Int)) : Option D := (rgI rs.length).findSome? fun a => (rgI rs.length).findSome? fun b => (rgI rs.length).findSome? fun c =>
  if rc rs (rc rs a b) c ≠ rc rs a (rc rs b c) then some (.tuple [.int a, .int b, .int c]) else none
def noBack (rs : List (List Int)) (u : Int) : Option Int := (rgI rs.length).find? fun a => (backOf rs u a).isNone
def faultOf (rs : List (List Int)) : D := match unitOf rs with
  | none => .tuple [.str "unit"]
  | some u => match noBack rs u with
    | some a => .tuple [.str "back", .int a]
    | none => match threeOf rs with
      | some (.tuple t) => .tuple (.str "three" :: t)
      | _ => .tuple [.str "group"]
def isGrp (rs : List (List Int)) : Bool := match unitOf rs with
  | none => false
  | some u => (noBack rs u).isNone && (threeOf rs).isNone
def isPaper (rs : List (List Int)) (d : D) : Bool :=
  if isTold "three" 3 rs.length d = true then (match d with
    | .tuple [_, .int a, .int b, .int c] => decide (rc rs (rc rs a b) c ≠ rc rs a (rc rs b c))
    | _ => false)
  else if isTold "back" 1 rs.length d = true then (match d, unitOf rs with
    | .tuple [_, .int a], some u => (backOf rs u a).isNone
    | _, _ => false)
  else if isTup1 "unit" d = true then (unitOf rs).isNone
  else isTup1 "group" d && isGrp rs
def S_is_integer (ds : List D) (Q : D → Prop) : Prop := ∃ d, ds = [d] ∧ Q (.bool (isI d))
def S_is_thing (ds : List D) (Q : D → Prop) : Prop := ∃ d n, ds = [d, .int n] ∧ Q (.bool (isTh n d))
def S_is_row (ds : List D) (Q : D → Prop) : Prop := ∃ d m n, ds = [d, .int m, .int n] ∧ (∀ xs, d = .tuple xs → xs.length ≤ 100000) ∧ n ≤ 100000 ∧ Q (.bool (isRow m n d))
def S_is_square (ds : List D) (Q : D → Prop) : Prop := ∃ rs, ds = [tR rs, .int 1, .int 24] ∧ Rw rs ∧ Q (.bool true)
def S_is_same0 (ds : List D) (Q : D → Prop) : Prop := ∃ d s, ds = [d, .str s] ∧ okS d ∧ SeqAt.shaped (.str s) = true ∧ Q (.bool (isStr s d))
def S_is_same (ds : List D) (Q : D → Prop) : Prop := (∃ d s, ds = [d, .str s] ∧ okS d ∧ SeqAt.shaped (.str s) = true ∧ Q (.bool (isStr s d))) ∨ ∃ d s, ds = [d, .tuple [.str s]] ∧ okV d ∧ SeqAt.shaped (.str s) = true ∧ Q (.bool (isTup1 s d))
def S_is_told (ds : List D) (Q : D → Prop) : Prop := ∃ d s m n, ds = [d, .str s, .int m, .int n] ∧ (0 ≤ m ∧ n ≤ 100000) ∧ okV d ∧ SeqAt.shaped (.str s) = true ∧ Q (.bool (isTold s m n d))
def S_unit_of (ds : List D) (Q : D → Prop) : Prop := ∃ rs, ds = [tR rs] ∧ Rw rs ∧ Q (optD (unitOf rs))
def S_back_of (ds : List D) (Q : D → Prop) : Prop := ∃ rs u t, ds = [tR rs, .int u, .int t] ∧ Rw rs ∧ 0 ≤ t ∧ t < rs.length ∧ Q (optD (backOf rs u t))
def S_broken_three (ds : List D) (Q : D → Prop) : Prop := ∃ rs, ds = [tR rs] ∧ Rw rs ∧ Q ((threeOf rs).getD .none)
def S_group_paper (ds : List D) (Q : D → Prop) : Prop := ∃ rs, ds = [tR rs] ∧ Rw rs ∧ Q (faultOf rs)
def S_is_group_paper (ds : List D) (Q : D → Prop) : Prop := ∃ rs d, ds = [tR rs, d] ∧ Rw rs ∧ okV d ∧ Q (.bool (isPaper rs d))
def S__check_rows (ds : List D) (Q : D → Prop) : Prop := ∃ rs, ds = [tR rs] ∧ Rw rs ∧ Q .none
def Dc (ms : List D) : Prop := ∃ a b c : Int, ms = [.int a, .int b, .int c]
def scr (s : List Int) : D := .dict [(.none, .tuple (s.map PyData.int))]
def S__law_dice (ds : List D) (Q : List D → Prop) : Prop := ∃ s i, ds = [scr s, .int i] ∧ 0 ≤ i ∧ ∀ ms, Dc ms → Q ms
def S__law_roll (ms ds : List D) (Q : D → List D → Prop) : Prop := ∃ t, ds = [.int t] ∧ 0 < t ∧ t ≤ T60 ∧ Dc ms ∧ ∀ r ms', 0 ≤ r → r < t → Dc ms' → Q (.int r) ms'
def S__law_pick (ms ds : List D) (Q : D → List D → Prop) : Prop := ∃ d xs, ds = [d] ∧ seqD d = some xs ∧ xs ≠ [] ∧ xs.length ≤ 100000 ∧ Dc ms ∧ ∀ x ms', x ∈ xs → Dc ms' → Q x ms'
def S__law_mixed (ms ds : List D) (Q : D → List D → Prop) : Prop := ∃ d xs, ds = [d] ∧ seqD d = some xs ∧ xs.length ≤ 100000 ∧ Dc ms ∧ ∀ ys ms', ys.Perm xs → Dc ms' → Q (.list ys) ms'
def S__law_undone (ds : List D) (Q : D → Prop) : Prop := ∃ m, ds = [tI m] ∧ m.length ≤ 1000 ∧ (∀ x, x ∈ m → 0 ≤ x ∧ x < m.length) ∧ ∀ u : List Int, u.length = m.length → (∀ x, x ∈ u → 0 ≤ x ∧ x < m.length) → Q (tI u)
def S__law_drawn_move (ms ds : List D) (Q : D → List D → Prop) : Prop := ∃ n : Nat, ds = [.int n] ∧ n ≤ 1000 ∧ Dc ms ∧ ∀ m ms', List.Perm m (rgI n) → Dc ms' → Q (tI m) ms'
def S__law_places_of (ds : List D) (Q : D → Prop) : Prop := ∃ c s : Nat, ds = [.int c, .int s] ∧ 1 ≤ s ∧ c * s ≤ 1000 ∧ Q (.list ((rgI (c * s)).map fun k => .tuple [.int (k / s), .int (k % s)]))
def S__law_product_dots (ds : List D) (Q : D → Prop) : Prop := ∃ A B, ds = [tR A, tR B] ∧ Rw A ∧ Rw B ∧ A.length * B.length ≤ 24 ∧ ∀ C, Rw C → C.length = A.length * B.length → Q (.list (C.map tI))
def S__law_cyclic (ds : List D) (Q : D → Prop) : Prop := ∃ n : Nat, ds = [.int n] ∧ 1 ≤ n ∧ n ≤ 24 ∧ ∀ C, Rw C → C.length = n → Q (tR C)
def S__law_direct (ds : List D) (Q : D → Prop) : Prop := ∃ A B, ds = [tR A, tR B] ∧ Rw A ∧ Rw B ∧ A.length * B.length ≤ 24 ∧ ∀ C, Rw C → C.length = A.length * B.length → Q (tR C)
def S__law_turned_pairs (ds : List D) (Q : D → Prop) : Prop := ∃ n : Nat, ds = [.int n] ∧ 1 ≤ n ∧ n ≤ 12 ∧ ∀ C, Rw C → C.length = 2 * n → Q (tR C)
def S__law_renamed_group (ds : List D) (Q : D → Prop) : Prop := ∃ rs m, ds = [tR rs, tI m] ∧ Rw rs ∧ List.Perm m (rgI rs.length) ∧ ∀ C, Rw C → C.length = rs.length → Q (tR C)
def S__law_group_rows (ms ds : List D) (Q : D → List D → Prop) : Prop := ds = [.int 6] ∧ Dc ms ∧ ∀ C ms', Rw C → Dc ms' → Q (tR C) ms'
def S__law_group_fault (ds : List D) (Q : D → Prop) : Prop := ∃ rs, ds = [tR rs] ∧ Rw rs ∧ Q (faultOf rs)
def S__law_with_entry (ds : List D) (Q : D → Prop) : Prop := ∃ rs a b v, ds = [tR rs, .int a, .int b, .int v] ∧ Rw rs ∧ (0 ≤ a ∧ a < rs.length) ∧ (0 ≤ b ∧ b < rs.length) ∧ (0 ≤ v ∧ v < rs.length) ∧ ∀ C, Rw C → C.length = rs.length → Q (tR C)
def S__law_near_group (ms ds : List D) (Q : D → List D → Prop) : Prop := ∃ rs, ds = [tR rs] ∧ Rw rs ∧ Dc ms ∧ ∀ C ms', Rw C → Dc ms' → Q (tR C) ms'
def PGood (n : Int) (p : D) : Prop := p = .tuple [.str "unit"] ∨ p = .tuple [.str "group"] ∨ (∃ a, p = .tuple [.str "back", .int a] ∧ 0 ≤ a ∧ a < n) ∨ ∃ a b c, p = .tuple [.str "three", .int a, .int b, .int c] ∧ (0 ≤ a ∧ a < n) ∧ (0 ≤ b ∧ b < n) ∧ 0 ≤ c ∧ c < n
def S__law_is_so (ds : List D) (Q : D → Prop) : Prop := ∃ rs p, ds = [tR rs, p] ∧ Rw rs ∧ PGood rs.length p ∧ Q (.bool (isPaper rs p))
def S__law_papers (ms ds : List D) (Q : D → List D → Prop) : Prop := ∃ n : Nat, ds = [.int n] ∧ 1 ≤ n ∧ n ≤ 24 ∧ Dc ms ∧ ∀ ps ms', (∀ p, p ∈ ps → PGood n p) → ps.length ≤ 1000 → Dc ms' → Q (.list ps) ms'
def S__law_odd_values (ds : List D) (Q : D → Prop) : Prop := ∃ n : Nat, ds = [.int n] ∧ 1 ≤ n ∧ n ≤ 24 ∧ ∀ vs, (∀ v, v ∈ vs → okV v ∧ ∀ rs, Rw rs → rs.length = n → isPaper rs v = false) → vs.length ≤ 1000 → Q (.list vs)
def S_law (ds : List D) (Q : D → Prop) : Prop := ∃ s, ds = [scr s] ∧ s.length ≤ 63 ∧ Q (.bool true)

section
variable {P : Program} {w : World} {K : PySem.W.Frag} {mg : Str → Option Value} {base : Heap}
abbrev N_is_integer : List Str := ["value"]
abbrev P_is_integer : List Str := ["value"]
theorem sc_is_integer : FnScope N_is_integer P_is_integer (defScope st_is_integer) := ⟨rfl, rfl, rfl, by decide +kernel, rfl, by decide +kernel, by decide +kernel⟩
theorem bs_is_integer : BindsAs "is_integer" st_is_integer P_is_integer := fun _ _ _ _ _ _ us hl => match us, hl with | [_], _ => rfl
def g_is_integer : DS := sSeq (sIf (dTOr (dTNot (dTst (dIsi "int" (dVar 0)))) (dTst (dIsi "bool" (dVar 0)))) (sRet (dC (.bool false))) (sNx)) (sRet (dChain dLt dLt (dNeg (dC (.int 1000000000000000000000000000000000000000000000000000000000000))) (dVar 0) (dC (.int 1000000000000000000000000000000000000000000000000000000000000))))
theorem j_is_integer (B : Bl mg) {t_TOO_LONG : Tok} (c_TOO_LONG : mg "TOO_LONG" = some (.int 1000000000000000000000000000000000000000000000000000000000000 t_TOO_LONG)) : BodyCx P w K mg base "is_integer" st_is_integer N_is_integer 0 fun X => JSs X (defBody st_is_integer) g_is_integer := fun f cdv A outer s H E hr => js_cons (js_if ((jw_or (jt_not (jt_val (je_isi (tn := "int") B.isinstance B.int (by decide +kernel) (je_v 0)))) (jw_or1 (jt_val (je_isi (tn := "bool") B.isinstance B.bool (by decide +kernel) (je_v 0))))).jt) (js_one (js_ret (je_bl))) (js_nil)) (js_one (js_ret (je_chain opd_lt opd_lt (je_neg (je_globI c_TOO_LONG (by rfl))) (je_v 0) (je_globI c_TOO_LONG (by rfl)))))
abbrev N_is_row : List Str := ["value", "many", "size", "thing"]
abbrev P_is_row : List Str := ["value", "many", "size"]
theorem sc_is_row : FnScope N_is_row P_is_row (defScope st_is_row) := ⟨rfl, rfl, rfl, by decide +kernel, rfl, by decide +kernel, by decide +kernel⟩
theorem bs_is_row : BindsAs "is_row" st_is_row P_is_row := fun _ _ _ _ _ _ us hl => match us, hl with | [_, _, _], _ => rfl
def g_is_row : DS := sSeq (sIf (dTOr (dTNot (dTst (dIsi "tuple" (dVar 0)))) (dTst (dBin dNe (dCall dLen (aCons (dVar 0) (aNil))) (dVar 1)))) (sRet (dC (.bool false))) (sNx)) (sSeq (sFor (iSq (dVar 0)) (gNm 3) (sIf (dTOr (dTNot (dTst (dIsi "int" (dVar 3)))) (dTOr (dTst (dIsi "bool" (dVar 3))) (dTNot (dTst (dChain dLe dLt (dC (.int 0)) (dVar 3) (dVar 2)))))) (sRet (dC (.bool false))) (sNx))) (sRet (dC (.bool true))))
theorem j_is_row (B : Bl mg) : BodyCx P w K mg base "is_row" st_is_row N_is_row 0 fun X => JSs X (defBody st_is_row) g_is_row := fun f cdv A outer s H E hr => js_cons (js_if ((jw_or (jt_not (jt_val (je_isi (tn := "tuple") B.isinstance B.tuple (by decide +kernel) (je_v 0)))) (jw_or1 (jt_cmp (opd_ne hr.units) (je_callB calld_len B.len (by decide +kernel) (ja_cons (je_v 0) (ja_nil))) (je_v 1) (nomark _)))).jt) (js_one (js_ret (je_bl))) (js_nil)) (js_cons (js_for (vs := [3]) rfl (ji_sq (je_v 0)) (jg_n 3 sc_is_row.nd) (js_one (js_if ((jw_or (jt_not (jt_val (je_isi (tn := "int") B.isinstance B.int (by decide +kernel) (je_v 3)))) (jw_or (jt_val (je_isi (tn := "bool") B.isinstance B.bool (by decide +kernel) (je_v 3))) (jw_or1 (jt_not (jt_chain opd_le opd_lt (je_int) (je_v 3) (je_v 2)))))).jt) (js_one (js_ret (je_bl))) (js_nil)))) (js_one (js_ret (je_bl))))
abbrev N_is_square : List Str := ["value", "least", "most", "row"]
abbrev P_is_square : List Str := ["value", "least", "most"]
theorem sc_is_square : FnScope N_is_square P_is_square (defScope st_is_square) := ⟨rfl, rfl, rfl, by decide +kernel, rfl, by decide +kernel, by decide +kernel⟩
theorem bs_is_square : BindsAs "is_square" st_is_square P_is_square := fun _ _ _ _ _ _ us hl => match us, hl with | [_, _, _], _ => rfl
def g_is_square : DS := sSeq (sIf (dTOr (dTNot (dTst (dIsi "tuple" (dVar 0)))) (dTNot (dTst (dChain dLe dLe (dVar 1) (dCall dLen (aCons (dVar 0) (aNil))) (dVar 2))))) (sRet (dC (.bool false))) (sNx)) (sRet (dCall dAll (aCons (dOfL (lLc (iSq (dVar 0)) (gNm 3) (dYes) (dCallF 3 S_is_row (aCons (dVar 3) (aCons (dCall dLen (aCons (dVar 0) (aNil))) (aCons (dCall dLen (aCons (dVar 0) (aNil))) (aNil))))) [3])) (aNil))))
theorem j_is_square (B : Bl mg) (O_is_row : Ok P w K mg base "is_row" P_is_row 1 (spD K 3 S_is_row)) : BodyCx P w K mg base "is_square" st_is_square N_is_square 1 fun X => JSs X (defBody st_is_square) g_is_square := fun f cdv A outer s H E hr => js_cons (js_if ((jw_or (jt_not (jt_val (je_isi (tn := "tuple") B.isinstance B.tuple (by decide +kernel) (je_v 0)))) (jw_or1 (jt_not (jt_chain opd_le opd_le (je_v 1) (je_callB calld_len B.len (by decide +kernel) (ja_cons (je_v 0) (ja_nil))) (je_v 2))))).jt) (js_one (js_ret (je_bl))) (js_nil)) (js_one (js_ret (je_callB (calld_all rfl) B.all (by decide +kernel) (ja_cons ((jl_lc (own := [("row", 3)]) rfl sc_is_square.nd (ji_sq (je_v 0)) (blkOk_by (by rfl)) (fun _ _ _ _ _ => jg_n 3 sc_is_square.nd) (fun _ _ _ _ _ => jts_nil) (fun _ _ _ _ _ => je_fn O_is_row (hr.mono (by decide)) (ja_cons (je_v 3) (ja_cons (je_callB calld_len B.len (by decide +kernel) (ja_cons (je_v 0) (ja_nil))) (ja_cons (je_callB calld_len B.len (by decide +kernel) (ja_cons (je_v 0) (ja_nil))) (ja_nil)))))).je) (ja_nil)))))
abbrev N_is_same : List Str := ["value", "told", "index", "part"]
abbrev P_is_same : List Str := ["value", "told"]
theorem sc_is_same : FnScope N_is_same P_is_same (defScope st_is_same) := ⟨rfl, rfl, rfl, by decide +kernel, rfl, by decide +kernel, by decide +kernel⟩
theorem bs_is_same : BindsAs "is_same" st_is_same P_is_same := fun _ _ _ _ _ _ us hl => match us, hl with | [_, _], _ => rfl
def g_is_same0 : DS := sSeq (sIf (dTst (dIsi "tuple" (dVar 1))) (sSeq (sIf (dTOr (dTNot (dTst (dIsi "tuple" (dVar 0)))) (dTst (dBin dNe (dCall dLen (aCons (dVar 0) (aNil))) (dCall dLen (aCons (dVar 1) (aNil)))))) (sRet (dC (.bool false))) (sNx)) (sRet (dCall dAll (aCons (dOfL (lLc (iEn (dVar 0)) (gTp 2 (gsCons (gNm 2) (gsCons (gNm 3) (gsNil)))) (dYes) (dNever) [2, 3])) (aNil))))) (sNx)) (sSeq (sIf (dTst (dIsi "str" (dVar 1))) (sRet (dAnd (dIsi "str" (dVar 0)) (dBin dEq (dVar 0) (dVar 1)))) (sNx)) (sRet (dAnd (dCallF 1 S_is_integer (aCons (dVar 0) (aNil))) (dBin dEq (dVar 0) (dVar 1)))))
theorem j_is_same0 (B : Bl mg) (O_is_integer : Ok P w K mg base "is_integer" P_is_integer 1 (spD K 1 S_is_integer)) : BodyCx P w K mg base "is_same" st_is_same N_is_same 1 fun X => JSs X (defBody st_is_same) g_is_same0 := fun f cdv A outer s H E hr => js_cons (js_if (jt_val (je_isi (tn := "tuple") B.isinstance B.tuple (by decide +kernel) (je_v 1))) (js_cons (js_if ((jw_or (jt_not (jt_val (je_isi (tn := "tuple") B.isinstance B.tuple (by decide +kernel) (je_v 0)))) (jw_or1 (jt_cmp (opd_ne hr.units) (je_callB calld_len B.len (by decide +kernel) (ja_cons (je_v 0) (ja_nil))) (je_callB calld_len B.len (by decide +kernel) (ja_cons (je_v 1) (ja_nil))) (nomark _)))).jt) (js_one (js_ret (je_bl))) (js_nil)) (js_one (js_ret (je_callB (calld_all rfl) B.all (by decide +kernel) (ja_cons ((jl_lc (own := [("index", 2), ("part", 3)]) rfl sc_is_same.nd (ji_en B.enumerate (je_v 0)) (blkOk_by (by rfl)) (fun _ _ _ _ _ => jg_tup rfl (jgs_cons (jg_n 2 sc_is_same.nd) (jgs_cons (jg_n 3 sc_is_same.nd) (jgs_nil)))) (fun _ _ _ _ _ => jts_nil) (fun _ _ _ _ _ => je_never)).je) (ja_nil)))))) (js_nil)) (js_cons (js_if (jt_val (je_isi (tn := "str") B.isinstance B.str (by decide +kernel) (je_v 1))) (js_one (js_ret (je_and (je_isi (tn := "str") B.isinstance B.str (by decide +kernel) (je_v 0)) (je_one (je_cmp (opd_eq hr.units) (je_v 0) (je_v 1) (nomark _)))))) (js_nil)) (js_one (js_ret (je_and (je_fn O_is_integer (hr.mono (by decide)) (ja_cons (je_v 0) (ja_nil))) (je_one (je_cmp (opd_eq hr.units) (je_v 0) (je_v 1) (nomark _)))))))
def g_is_same : DS := sSeq (sIf (dTst (dIsi "tuple" (dVar 1))) (sSeq (sIf (dTOr (dTNot (dTst (dIsi "tuple" (dVar 0)))) (dTst (dBin dNe (dCall dLen (aCons (dVar 0) (aNil))) (dCall dLen (aCons (dVar 1) (aNil)))))) (sRet (dC (.bool false))) (sNx)) (sRet (dCall dAll (aCons (dOfL (lLc (iEn (dVar 0)) (gTp 2 (gsCons (gNm 2) (gsCons (gNm 3) (gsNil)))) (dYes) (dCallF 2 S_is_same0 (aCons (dVar 3) (aCons (dBin dIx (dVar 1) (dVar 2)) (aNil)))) [2, 3])) (aNil))))) (sNx)) (sSeq (sIf (dTst (dIsi "str" (dVar 1))) (sRet (dAnd (dIsi "str" (dVar 0)) (dBin dEq (dVar 0) (dVar 1)))) (sNx)) (sRet (dAnd (dCallF 1 S_is_integer (aCons (dVar 0) (aNil))) (dBin dEq (dVar 0) (dVar 1)))))
theorem j_is_same (B : Bl mg) (O_is_same0 : Ok P w K mg base "is_same" P_is_same 2 (spD K 2 S_is_same0)) (O_is_integer : Ok P w K mg base "is_integer" P_is_integer 1 (spD K 1 S_is_integer)) : BodyCx P w K mg base "is_same" st_is_same N_is_same 2 fun X => JSs X (defBody st_is_same) g_is_same := fun f cdv A outer s H E hr => js_cons (js_if (jt_val (je_isi (tn := "tuple") B.isinstance B.tuple (by decide +kernel) (je_v 1))) (js_cons (js_if ((jw_or (jt_not (jt_val (je_isi (tn := "tuple") B.isinstance B.tuple (by decide +kernel) (je_v 0)))) (jw_or1 (jt_cmp (opd_ne hr.units) (je_callB calld_len B.len (by decide +kernel) (ja_cons (je_v 0) (ja_nil))) (je_callB calld_len B.len (by decide +kernel) (ja_cons (je_v 1) (ja_nil))) (nomark _)))).jt) (js_one (js_ret (je_bl))) (js_nil)) (js_one (js_ret (je_callB (calld_all rfl) B.all (by decide +kernel) (ja_cons ((jl_lc (own := [("index", 2), ("part", 3)]) rfl sc_is_same.nd (ji_en B.enumerate (je_v 0)) (blkOk_by (by rfl)) (fun _ _ _ _ _ => jg_tup rfl (jgs_cons (jg_n 2 sc_is_same.nd) (jgs_cons (jg_n 3 sc_is_same.nd) (jgs_nil)))) (fun _ _ _ _ _ => jts_nil) (fun _ _ _ _ _ => je_fn O_is_same0 (hr.mono (by decide)) (ja_cons (je_v 3) (ja_cons (je_ix (je_v 1) (je_v 2)) (ja_nil))))).je) (ja_nil)))))) (js_nil)) (js_cons (js_if (jt_val (je_isi (tn := "str") B.isinstance B.str (by decide +kernel) (je_v 1))) (js_one (js_ret (je_and (je_isi (tn := "str") B.isinstance B.str (by decide +kernel) (je_v 0)) (je_one (je_cmp (opd_eq hr.units) (je_v 0) (je_v 1) (nomark _)))))) (js_nil)) (js_one (js_ret (je_and (je_fn O_is_integer (hr.mono (by decide)) (ja_cons (je_v 0) (ja_nil))) (je_one (je_cmp (opd_eq hr.units) (je_v 0) (je_v 1) (nomark _)))))))
abbrev N_is_told : List Str := ["value", "word", "many", "size"]
abbrev P_is_told : List Str := ["value", "word", "many", "size"]
theorem sc_is_told : FnScope N_is_told P_is_told (defScope st_is_told) := ⟨rfl, rfl, rfl, by decide +kernel, rfl, by decide +kernel, by decide +kernel⟩
theorem bs_is_told : BindsAs "is_told" st_is_told P_is_told := fun _ _ _ _ _ _ us hl => match us, hl with | [_, _, _, _], _ => rfl
def g_is_told : DS := sSeq (sIf (dTOr (dTNot (dTst (dIsi "tuple" (dVar 0)))) (dTst (dBin dNe (dCall dLen (aCons (dVar 0) (aNil))) (dBin dAdd (dVar 2) (dC (.int 1)))))) (sRet (dC (.bool false))) (sNx)) (sRet (dAnd (dCallF 2 S_is_same (aCons (dBin dIx (dVar 0) (dC (.int 0))) (aCons (dVar 1) (aNil)))) (dCallF 3 S_is_row (aCons (dSl (dVar 0) (oSome (dC (.int 1))) (oNone)) (aCons (dVar 2) (aCons (dVar 3) (aNil)))))))
theorem j_is_told (B : Bl mg) (O_is_same : Ok P w K mg base "is_same" P_is_same 3 (spD K 2 S_is_same)) (O_is_row : Ok P w K mg base "is_row" P_is_row 1 (spD K 3 S_is_row)) : BodyCx P w K mg base "is_told" st_is_told N_is_told 3 fun X => JSs X (defBody st_is_told) g_is_told := fun f cdv A outer s H E hr => js_cons (js_if ((jw_or (jt_not (jt_val (je_isi (tn := "tuple") B.isinstance B.tuple (by decide +kernel) (je_v 0)))) (jw_or1 (jt_cmp (opd_ne hr.units) (je_callB calld_len B.len (by decide +kernel) (ja_cons (je_v 0) (ja_nil))) (je_bin opd_add (je_v 2) (je_int)) (nomark _)))).jt) (js_one (js_ret (je_bl))) (js_nil)) (js_one (js_ret (je_and (je_fn O_is_same (hr.mono (by decide)) (ja_cons (je_ix (je_v 0) (je_int)) (ja_cons (je_v 1) (ja_nil)))) (je_one (je_fn O_is_row (hr.mono (by decide)) (ja_cons (je_sl (je_v 0) (jo_some (je_int)) (jo_none)) (ja_cons (je_v 2) (ja_cons (je_v 3) (ja_nil)))))))))
abbrev N_unit_of : List Str := ["rows", "things", "thing", "row"]
abbrev P_unit_of : List Str := ["rows"]
theorem sc_unit_of : FnScope N_unit_of P_unit_of (defScope st_unit_of) := ⟨rfl, rfl, rfl, by decide +kernel, rfl, by decide +kernel, by decide +kernel⟩
theorem bs_unit_of : BindsAs "unit_of" st_unit_of P_unit_of := fun _ _ _ _ _ _ us hl => match us, hl with | [_], _ => rfl
def g_unit_of : DS := sSeq (sSet 1 (xIm (dTRg (rg1 (dCall dLen (aCons (dVar 0) (aNil))))))) (sSeq (sFor (iSq (dVar 1)) (gNm 2) (sIf (dTAnd (dTst (dBin dEq (dBin dIx (dVar 0) (dVar 2)) (dVar 1))) (dTst (dBin dEq (dCall dTupOf (aCons (dOfL (lLc (iSq (dVar 0)) (gNm 3) (dYes) (dBin dIx (dVar 3) (dVar 2)) [3])) (aNil))) (dVar 1)))) (sRet (dVar 2)) (sNx))) (sRet (dC .none)))
theorem j_unit_of (B : Bl mg) : BodyCx P w K mg base "unit_of" st_unit_of N_unit_of 0 fun X => JSs X (defBody st_unit_of) g_unit_of := fun f cdv A outer s H E hr => js_cons (js_set (i := 1) ((je_tupRg rfl B.tuple (jr_1 B.range (je_callB calld_len B.len (by decide +kernel) (ja_cons (je_v 0) (ja_nil))))).jx) sc_unit_of.nd rfl (by first | exact Or.inl rfl | exact Or.inr rfl)) (js_cons (js_for (vs := [2]) rfl (ji_sq (je_v 1)) (jg_n 2 sc_unit_of.nd) (js_one (js_if ((jw_and (jt_cmp (opd_eq hr.units) (je_ix (je_v 0) (je_v 2)) (je_v 1) (nomark _)) (jw_and1 (jt_cmp (opd_eq hr.units) (je_callTy calld_tuple B.tuple (by decide +kernel) (ja_cons ((jl_lc (own := [("row", 3)]) rfl sc_unit_of.nd (ji_sq (je_v 0)) (blkOk_by (by rfl)) (fun _ _ _ _ _ => jg_n 3 sc_unit_of.nd) (fun _ _ _ _ _ => jts_nil) (fun _ _ _ _ _ => je_ix (je_v 3) (je_v 2))).je) (ja_nil))) (je_v 1) (nomark _)))).jt) (js_one (js_ret (je_v 2))) (js_nil)))) (js_one (js_ret (je_non))))
abbrev N_back_of : List Str := ["rows", "unit", "thing", "other", "made"]
abbrev P_back_of : List Str := ["rows", "unit", "thing"]
theorem sc_back_of : FnScope N_back_of P_back_of (defScope st_back_of) := ⟨rfl, rfl, rfl, by decide +kernel, rfl, by decide +kernel, by decide +kernel⟩
theorem bs_back_of : BindsAs "back_of" st_back_of P_back_of := fun _ _ _ _ _ _ us hl => match us, hl with | [_, _, _], _ => rfl
def g_back_of : DS := sSeq (sFor (iEn (dBin dIx (dVar 0) (dVar 2))) (gTp 2 (gsCons (gNm 3) (gsCons (gNm 4) (gsNil)))) (sIf (dTAnd (dTst (dBin dEq (dVar 4) (dVar 1))) (dTst (dBin dEq (dBin dIx (dBin dIx (dVar 0) (dVar 3)) (dVar 2)) (dVar 1)))) (sRet (dVar 3)) (sNx))) (sRet (dC .none))
theorem j_back_of (B : Bl mg) : BodyCx P w K mg base "back_of" st_back_of N_back_of 0 fun X => JSs X (defBody st_back_of) g_back_of := fun f cdv A outer s H E hr => js_cons (js_for (vs := [3, 4]) rfl (ji_en B.enumerate (je_ix (je_v 0) (je_v 2))) (jg_tup rfl (jgs_cons (jg_n 3 sc_back_of.nd) (jgs_cons (jg_n 4 sc_back_of.nd) (jgs_nil)))) (js_one (js_if ((jw_and (jt_cmp (opd_eq hr.units) (je_v 4) (je_v 1) (nomark _)) (jw_and1 (jt_cmp (opd_eq hr.units) (je_ix (je_ix (je_v 0) (je_v 3)) (je_v 2)) (je_v 1) (nomark _)))).jt) (js_one (js_ret (je_v 3))) (js_nil)))) (js_one (js_ret (je_non)))
abbrev N_broken_three : List Str := ["rows", "a", "row", "b", "ab", "c", "bc"]
abbrev P_broken_three : List Str := ["rows"]
theorem sc_broken_three : FnScope N_broken_three P_broken_three (defScope st_broken_three) := ⟨rfl, rfl, rfl, by decide +kernel, rfl, by decide +kernel, by decide +kernel⟩
theorem bs_broken_three : BindsAs "broken_three" st_broken_three P_broken_three := fun _ _ _ _ _ _ us hl => match us, hl with | [_], _ => rfl
def g_broken_three : DS := sSeq (sFor (iEn (dVar 0)) (gTp 2 (gsCons (gNm 1) (gsCons (gNm 2) (gsNil)))) (sFor (iEn (dVar 2)) (gTp 2 (gsCons (gNm 3) (gsCons (gNm 4) (gsNil)))) (sFor (iEn (dBin dIx (dVar 0) (dVar 3))) (gTp 2 (gsCons (gNm 5) (gsCons (gNm 6) (gsNil)))) (sIf (dTst (dBin dNe (dBin dIx (dBin dIx (dVar 0) (dVar 4)) (dVar 5)) (dBin dIx (dVar 2) (dVar 6)))) (sRet (dTup (aCons (dVar 1) (aCons (dVar 3) (aCons (dVar 5) (aNil)))))) (sNx))))) (sRet (dC .none))
theorem j_broken_three (B : Bl mg) : BodyCx P w K mg base "broken_three" st_broken_three N_broken_three 0 fun X => JSs X (defBody st_broken_three) g_broken_three := fun f cdv A outer s H E hr => js_cons (js_for (vs := [1, 2]) rfl (ji_en B.enumerate (je_v 0)) (jg_tup rfl (jgs_cons (jg_n 1 sc_broken_three.nd) (jgs_cons (jg_n 2 sc_broken_three.nd) (jgs_nil)))) (js_one (js_for (vs := [3, 4]) rfl (ji_en B.enumerate (je_v 2)) (jg_tup rfl (jgs_cons (jg_n 3 sc_broken_three.nd) (jgs_cons (jg_n 4 sc_broken_three.nd) (jgs_nil)))) (js_one (js_for (vs := [5, 6]) rfl (ji_en B.enumerate (je_ix (je_v 0) (je_v 3))) (jg_tup rfl (jgs_cons (jg_n 5 sc_broken_three.nd) (jgs_cons (jg_n 6 sc_broken_three.nd) (jgs_nil)))) (js_one (js_if (jt_cmp (opd_ne hr.units) (je_ix (je_ix (je_v 0) (je_v 4)) (je_v 5)) (je_ix (je_v 2) (je_v 6)) (nomark _)) (js_one (js_ret (je_tup (ja_cons (je_v 1) (ja_cons (je_v 3) (ja_cons (je_v 5) (ja_nil))))))) (js_nil)))))))) (js_one (js_ret (je_non)))
abbrev N__check_rows : List Str := ["rows"]
abbrev P__check_rows : List Str := ["rows"]
theorem sc__check_rows : FnScope N__check_rows P__check_rows (defScope st__check_rows) := ⟨rfl, rfl, rfl, by decide +kernel, rfl, by decide +kernel, by decide +kernel⟩
theorem bs__check_rows : BindsAs "_check_rows" st__check_rows P__check_rows := fun _ _ _ _ _ _ us hl => match us, hl with | [_], _ => rfl
def g__check_rows : DS := sIf (dTNot (dTst (dCallF 3 S_is_square (aCons (dVar 0) (aCons (dC (.int 1)) (aCons (dC (.int 24)) (aNil))))))) (sNever) (sNx)
theorem j__check_rows {t_MAX_GROUP : Tok} (c_MAX_GROUP : mg "MAX_GROUP" = some (.int 24 t_MAX_GROUP)) (O_is_square : Ok P w K mg base "is_square" P_is_square 2 (spD K 3 S_is_square)) : BodyCx P w K mg base "_check_rows" st__check_rows N__check_rows 2 fun X => JSs X (defBody st__check_rows) g__check_rows := fun f cdv A outer s H E hr => js_one (js_if (jt_not (jt_val (je_fn O_is_square (hr.mono (by decide)) (ja_cons (je_v 0) (ja_cons (je_int) (ja_cons (je_globI c_MAX_GROUP (by rfl)) (ja_nil))))))) (js_one (js_never)) (js_nil))
abbrev N_group_paper : List Str := ["rows", "unit", "thing", "things"]
abbrev P_group_paper : List Str := ["rows"]
theorem sc_group_paper : FnScope N_group_paper P_group_paper (defScope st_group_paper) := ⟨rfl, rfl, rfl, by decide +kernel, rfl, by decide +kernel, by decide +kernel⟩
theorem bs_group_paper : BindsAs "group_paper" st_group_paper P_group_paper := fun _ _ _ _ _ _ us hl => match us, hl with | [_], _ => rfl
def g_group_paper : DS := sSeq (sEx (dCallF 1 S__check_rows (aCons (dVar 0) (aNil)))) (sSeq (sSet 1 (xIm (dCallF 1 S_unit_of (aCons (dVar 0) (aNil))))) (sSeq (sIf (dTst (dBin dIs (dVar 1) (dC .none))) (sRet (dTup (aCons (dC (.str "unit")) (aNil)))) (sNx)) (sSeq (sFor (iR1 (dCall dLen (aCons (dVar 0) (aNil)))) (gNm 2) (sIf (dTst (dBin dIs (dCallF 3 S_back_of (aCons (dVar 0) (aCons (dVar 1) (aCons (dVar 2) (aNil))))) (dC .none))) (sRet (dTup (aCons (dC (.str "back")) (aCons (dVar 2) (aNil))))) (sNx))) (sSeq (sSet 3 (xIm (dCallF 1 S_broken_three (aCons (dVar 0) (aNil))))) (sSeq (sIf (dTst (dBin dIsNot (dVar 3) (dC .none))) (sRet (dBin dAdd (dTup (aCons (dC (.str "three")) (aNil))) (dVar 3))) (sNx)) (sRet (dTup (aCons (dC (.str "group")) (aNil)))))))))
theorem j_group_paper (B : Bl mg) (O__check_rows : Ok P w K mg base "_check_rows" P__check_rows 3 (spD K 1 S__check_rows)) (O_unit_of : Ok P w K mg base "unit_of" P_unit_of 1 (spD K 1 S_unit_of)) (O_back_of : Ok P w K mg base "back_of" P_back_of 1 (spD K 3 S_back_of)) (O_broken_three : Ok P w K mg base "broken_three" P_broken_three 1 (spD K 1 S_broken_three)) : BodyCx P w K mg base "group_paper" st_group_paper N_group_paper 3 fun X => JSs X (defBody st_group_paper) g_group_paper := fun f cdv A outer s H E hr => js_cons (js_expr (je_fn O__check_rows (hr.mono (by decide)) (ja_cons (je_v 0) (ja_nil)))) (js_cons (js_set (i := 1) ((je_fn O_unit_of (hr.mono (by decide)) (ja_cons (je_v 0) (ja_nil))).jx) sc_group_paper.nd rfl (by first | exact Or.inl rfl | exact Or.inr rfl)) (js_cons (js_if (jt_cmp opd_is (je_v 1) (je_non) (nomark _)) (js_one (js_ret (je_tup (ja_cons (je_str) (ja_nil))))) (js_nil)) (js_cons (js_for (vs := [2]) rfl (ji_r1 B.range (je_callB calld_len B.len (by decide +kernel) (ja_cons (je_v 0) (ja_nil)))) (jg_n 2 sc_group_paper.nd) (js_one (js_if (jt_cmp opd_is (je_fn O_back_of (hr.mono (by decide)) (ja_cons (je_v 0) (ja_cons (je_v 1) (ja_cons (je_v 2) (ja_nil))))) (je_non) (nomark _)) (js_one (js_ret (je_tup (ja_cons (je_str) (ja_cons (je_v 2) (ja_nil)))))) (js_nil)))) (js_cons (js_set (i := 3) ((je_fn O_broken_three (hr.mono (by decide)) (ja_cons (je_v 0) (ja_nil))).jx) sc_group_paper.nd rfl (by first | exact Or.inl rfl | exact Or.inr rfl)) (js_cons (js_if (jt_cmp opd_isnot (je_v 3) (je_non) (nomark _)) (js_one (js_ret (je_bin opd_add (je_tup (ja_cons (je_str) (ja_nil))) (je_v 3)))) (js_nil)) (js_one (js_ret (je_tup (ja_cons (je_str) (ja_nil))))))))))
abbrev N_is_group_paper : List Str := ["rows", "value", "_", "a", "b", "c", "unit"]
abbrev P_is_group_paper : List Str := ["rows", "value"]
theorem sc_is_group_paper : FnScope N_is_group_paper P_is_group_paper (defScope st_is_group_paper) := ⟨rfl, rfl, rfl, by decide +kernel, rfl, by decide +kernel, by decide +kernel⟩
theorem bs_is_group_paper : BindsAs "is_group_paper" st_is_group_paper P_is_group_paper := fun _ _ _ _ _ _ us hl => match us, hl with | [_, _], _ => rfl
def g_is_group_paper : DS := sSeq (sEx (dCallF 1 S__check_rows (aCons (dVar 0) (aNil)))) (sSeq (sIf (dTst (dCallF 4 S_is_told (aCons (dVar 1) (aCons (dC (.str "three")) (aCons (dC (.int 3)) (aCons (dCall dLen (aCons (dVar 0) (aNil))) (aNil))))))) (sSeq (sAsg (dVar 1) (gTp 4 (gsCons (gNm 2) (gsCons (gNm 3) (gsCons (gNm 4) (gsCons (gNm 5) (gsNil))))))) (sRet (dBin dNe (dBin dIx (dBin dIx (dVar 0) (dBin dIx (dBin dIx (dVar 0) (dVar 3)) (dVar 4))) (dVar 5)) (dBin dIx (dBin dIx (dVar 0) (dVar 3)) (dBin dIx (dBin dIx (dVar 0) (dVar 4)) (dVar 5)))))) (sNx)) (sSeq (sSet 6 (xIm (dCallF 1 S_unit_of (aCons (dVar 0) (aNil))))) (sSeq (sIf (dTst (dCallF 4 S_is_told (aCons (dVar 1) (aCons (dC (.str "back")) (aCons (dC (.int 1)) (aCons (dCall dLen (aCons (dVar 0) (aNil))) (aNil))))))) (sRet (dAnd (dBin dIsNot (dVar 6) (dC .none)) (dBin dIs (dCallF 3 S_back_of (aCons (dVar 0) (aCons (dVar 6) (aCons (dBin dIx (dVar 1) (dC (.int 1))) (aNil))))) (dC .none)))) (sNx)) (sSeq (sIf (dTst (dCallF 2 S_is_same (aCons (dVar 1) (aCons (dTup (aCons (dC (.str "unit")) (aNil))) (aNil))))) (sRet (dBin dIs (dVar 6) (dC .none))) (sNx)) (sRet (dAnd (dCallF 2 S_is_same (aCons (dVar 1) (aCons (dTup (aCons (dC (.str "group")) (aNil))) (aNil)))) (dBin dEq (dCallF 1 S_group_paper (aCons (dVar 0) (aNil))) (dTup (aCons (dC (.str "group")) (aNil))))))))))
theorem j_is_group_paper (B : Bl mg) (O__check_rows : Ok P w K mg base "_check_rows" P__check_rows 3 (spD K 1 S__check_rows)) (O_is_told : Ok P w K mg base "is_told" P_is_told 4 (spD K 4 S_is_told)) (O_unit_of : Ok P w K mg base "unit_of" P_unit_of 1 (spD K 1 S_unit_of)) (O_back_of : Ok P w K mg base "back_of" P_back_of 1 (spD K 3 S_back_of)) (O_is_same : Ok P w K mg base "is_same" P_is_same 3 (spD K 2 S_is_same)) (O_group_paper : Ok P w K mg base "group_paper" P_group_paper 4 (spD K 1 S_group_paper)) : BodyCx P w K mg base "is_group_paper" st_is_group_paper N_is_group_paper 4 fun X => JSs X (defBody st_is_group_paper) g_is_group_paper := fun f cdv A outer s H E hr => js_cons (js_expr (je_fn O__check_rows (hr.mono (by decide)) (ja_cons (je_v 0) (ja_nil)))) (js_cons (js_if (jt_val (je_fn O_is_told (hr.mono (by decide)) (ja_cons (je_v 1) (ja_cons (je_str) (ja_cons (je_int) (ja_cons (je_callB calld_len B.len (by decide +kernel) (ja_cons (je_v 0) (ja_nil))) (ja_nil))))))) (js_cons (js_asg (vs := [2, 3, 4, 5]) (je_v 1) (jg_tup rfl (jgs_cons (jg_n 2 sc_is_group_paper.nd) (jgs_cons (jg_n 3 sc_is_group_paper.nd) (jgs_cons (jg_n 4 sc_is_group_paper.nd) (jgs_cons (jg_n 5 sc_is_group_paper.nd) (jgs_nil))))))) (js_one (js_ret (je_cmp (opd_ne hr.units) (je_ix (je_ix (je_v 0) (je_ix (je_ix (je_v 0) (je_v 3)) (je_v 4))) (je_v 5)) (je_ix (je_ix (je_v 0) (je_v 3)) (je_ix (je_ix (je_v 0) (je_v 4)) (je_v 5))) (nomark _))))) (js_nil)) (js_cons (js_set (i := 6) ((je_fn O_unit_of (hr.mono (by decide)) (ja_cons (je_v 0) (ja_nil))).jx) sc_is_group_paper.nd rfl (by first | exact Or.inl rfl | exact Or.inr rfl)) (js_cons (js_if (jt_val (je_fn O_is_told (hr.mono (by decide)) (ja_cons (je_v 1) (ja_cons (je_str) (ja_cons (je_int) (ja_cons (je_callB calld_len B.len (by decide +kernel) (ja_cons (je_v 0) (ja_nil))) (ja_nil))))))) (js_one (js_ret (je_and (je_cmp opd_isnot (je_v 6) (je_non) (nomark _)) (je_one (je_cmp opd_is (je_fn O_back_of (hr.mono (by decide)) (ja_cons (je_v 0) (ja_cons (je_v 6) (ja_cons (je_ix (je_v 1) (je_int)) (ja_nil))))) (je_non) (nomark _)))))) (js_nil)) (js_cons (js_if (jt_val (je_fn O_is_same (hr.mono (by decide)) (ja_cons (je_v 1) (ja_cons (je_tup (ja_cons (je_str) (ja_nil))) (ja_nil))))) (js_one (js_ret (je_cmp opd_is (je_v 6) (je_non) (nomark _)))) (js_nil)) (js_one (js_ret (je_and (je_fn O_is_same (hr.mono (by decide)) (ja_cons (je_v 1) (ja_cons (je_tup (ja_cons (je_str) (ja_nil))) (ja_nil)))) (je_one (je_cmp (opd_eq hr.units) (je_fn O_group_paper (hr.mono (by decide)) (ja_cons (je_v 0) (ja_nil))) (je_tup (ja_cons (je_str) (ja_nil))) (nomark _))))))))))
abbrev N__law_dice : List Str := ["_law_script", "_law_spot", "_law_cell", "_law_left"]
abbrev P__law_dice : List Str := ["_law_script", "_law_spot"]
theorem sc__law_dice : FnScope N__law_dice P__law_dice (defScope st__law_dice) := ⟨rfl, rfl, rfl, by decide +kernel, rfl, by decide +kernel, by decide +kernel⟩
theorem bs__law_dice : BindsAs "_law_dice" st__law_dice P__law_dice := fun _ _ _ _ _ _ us hl => match us, hl with | [_, _], _ => rfl
def g__law_dice : (List D → Prop) → Env → Prop := (fun Q ρ => (sSet 2 (xIm (dIfE (dTst (dBin dLt (dVar 1) (dCall dLen (aCons (dVar 0) (aNil))))) (dCall dInt (aCons (dBin dIx (dVar 0) (dVar 1)) (aNil))) (dBin dAdd (dBin dMulA (dC (.int 83)) (dVar 1)) (dC (.int 29)))))) { nx := (fun Q ρ => (sSet 3 (xIm (dBin dMod (dCall dMax2 (aCons (dC (.int 0)) (aCons (dBin dSub (dCall dAbs (aCons (dVar 2) (aNil))) (dBin dPow (dC (.int 10)) (dC (.int 16)))) (aNil)))) (dBin dMulA (dBin dPow (dC (.int 10)) (dC (.int 60))) (dBin dPow (dC (.int 10)) (dC (.int 60))))))) { nx := (fun Q ρ => (lLst (aCons (dVar 3) (aCons (dBin dAdd (dBin dAdd (dBin dAdd (dBin dMulA (dBin dMod (dCall dAbs (aCons (dVar 2) (aNil))) (dC (.int 1152921504606845527))) (dC (.int 79))) (dBin dMulA (dC (.int 877)) (dVar 1))) (dBin dMulA (dC (.int 41)) (dCall dInt (aCons (dBin dLt (dVar 2) (dC (.int 0))) (aNil))))) (dC (.int 23))) (aCons (dC (.int 0)) (aNil))))) ρ fun es _ => Q es) Q, rt := fun _ _ => False } ρ) Q, rt := fun _ _ => False } ρ)
theorem j__law_dice (B : Bl mg) : BodyCx P w K mg base "_law_dice" st__law_dice N__law_dice 0 fun X => JSL X (defBody st__law_dice) g__law_dice := fun f cdv A outer s H E hr => jsl_cons (js_set (i := 2) ((je_if (jt_cmp opd_lt (je_v 1) (je_callB calld_len B.len (by decide +kernel) (ja_cons (je_v 0) (ja_nil))) (nomark _)) (je_callTy calld_int B.int (by decide +kernel) (ja_cons (je_ix (je_v 0) (je_v 1)) (ja_nil))) (je_bin opd_add (je_bin opd_mulA (je_int) (je_v 1)) (je_int))).jx) sc__law_dice.nd rfl (by first | exact Or.inl rfl | exact Or.inr rfl)) (jsl_cons (js_set (i := 3) ((je_bin opd_mod (je_callB (calld_max2 rfl) B.max (by decide +kernel) (ja_cons (je_int) (ja_cons (je_bin opd_sub (je_callB calld_abs B.abs (by decide +kernel) (ja_cons (je_v 2) (ja_nil))) (je_bin opd_pow (je_int) (je_int))) (ja_nil)))) (je_bin opd_mulA (je_bin opd_pow (je_int) (je_int)) (je_bin opd_pow (je_int) (je_int)))).jx) sc__law_dice.nd rfl (by first | exact Or.inl rfl | exact Or.inr rfl)) (jsl_ret (jl_lst (ja_cons (je_v 3) (ja_cons (je_bin opd_add (je_bin opd_add (je_bin opd_add (je_bin opd_mulA (je_bin opd_mod (je_callB calld_abs B.abs (by decide +kernel) (ja_cons (je_v 2) (ja_nil))) (je_int)) (je_int)) (je_bin opd_mulA (je_int) (je_v 1))) (je_bin opd_mulA (je_int) (je_callTy calld_int B.int (by decide +kernel) (ja_cons (je_cmp opd_lt (je_v 2) (je_int) (nomark _)) (ja_nil))))) (je_int)) (ja_cons (je_int) (ja_nil)))))))
abbrev N__law_roll : List Str := ["_law_dice_here", "_law_total", "_law_found", "_law_one", "_law_two"]
abbrev P__law_roll : List Str := ["_law_dice_here", "_law_total"]
theorem sc__law_roll : FnScope N__law_roll P__law_roll (defScope st__law_roll) := ⟨rfl, rfl, rfl, by decide +kernel, rfl, by decide +kernel, by decide +kernel⟩
theorem bs__law_roll : BindsAs "_law_roll" st__law_roll P__law_roll := fun _ _ _ _ _ _ us hl => match us, hl with | [_, _], _ => rfl
def g__law_roll : DS := sSeq (sIf (dTst (dBin dGt (dIxP 0 (dC (.int 0))) (dC (.int 0)))) (sSeq (sSet 2 (xIm (dBin dMod (dCall dInt (aCons (dIxP 0 (dC (.int 0))) (aNil))) (dVar 1)))) (sSeq (sSub 0 (dC (.int 0)) (dBin dFdiv (dIxP 0 (dC (.int 0))) (dVar 1))) (sRet (dVar 2)))) (sNx)) (sSeq (sSub 0 (dC (.int 2)) (dBin dAdd (dIxP 0 (dC (.int 2))) (dC (.int 1)))) (sSeq (sSet 3 (xIm (dBin dMod (dCall dInt (aCons (dBin dAdd (dIxP 0 (dC (.int 1))) (dBin dMulA (dC (.int 92821957)) (dIxP 0 (dC (.int 2))))) (aNil))) (dC (.int 2305843009213691579))))) (sSeq (sSet 4 (xIm (dBin dAdd (dBin dMulA (dBin dMod (dCall dInt (aCons (dBin dAdd (dBin dMulA (dVar 3) (dVar 3)) (dBin dMulA (dC (.int 97)) (dIxP 0 (dC (.int 2))))) (aNil))) (dC (.int 2305843009213692227))) (dC (.int 5915587))) (dVar 3)))) (sRet (dBin dMod (dCall dInt (aCons (dBin dFdiv (dVar 4) (dC (.int 65536))) (aNil))) (dVar 1))))))
theorem j__law_roll (B : Bl mg) : BodyCx P w K mg base "_law_roll" st__law_roll N__law_roll 0 fun X => JSs X (defBody st__law_roll) g__law_roll := fun f cdv A outer s H E hr => js_cons (js_if (jt_cmp opd_gt (je_ixP (i := 0) rfl (by first | exact Or.inl rfl | exact Or.inr (Or.inl rfl) | exact Or.inr (Or.inr rfl)) (je_int)) (je_int) (nomark _)) (js_cons (js_set (i := 2) ((je_bin opd_mod (je_callTy calld_int B.int (by decide +kernel) (ja_cons (je_ixP (i := 0) rfl (by first | exact Or.inl rfl | exact Or.inr (Or.inl rfl) | exact Or.inr (Or.inr rfl)) (je_int)) (ja_nil))) (je_v 1)).jx) sc__law_roll.nd rfl (by first | exact Or.inl rfl | exact Or.inr rfl)) (js_cons (js_sub (i := 0) rfl (by first | exact Or.inl rfl | exact Or.inr (Or.inl rfl) | exact Or.inr (Or.inr rfl)) (je_int) (je_bin opd_fdiv (je_ixP (i := 0) rfl (by first | exact Or.inl rfl | exact Or.inr (Or.inl rfl) | exact Or.inr (Or.inr rfl)) (je_int)) (je_v 1))) (js_one (js_ret (je_v 2))))) (js_nil)) (js_cons (js_sub (i := 0) rfl (by first | exact Or.inl rfl | exact Or.inr (Or.inl rfl) | exact Or.inr (Or.inr rfl)) (je_int) (je_bin opd_add (je_ixP (i := 0) rfl (by first | exact Or.inl rfl | exact Or.inr (Or.inl rfl) | exact Or.inr (Or.inr rfl)) (je_int)) (je_int))) (js_cons (js_set (i := 3) ((je_bin opd_mod (je_callTy calld_int B.int (by decide +kernel) (ja_cons (je_bin opd_add (je_ixP (i := 0) rfl (by first | exact Or.inl rfl | exact Or.inr (Or.inl rfl) | exact Or.inr (Or.inr rfl)) (je_int)) (je_bin opd_mulA (je_int) (je_ixP (i := 0) rfl (by first | exact Or.inl rfl | exact Or.inr (Or.inl rfl) | exact Or.inr (Or.inr rfl)) (je_int)))) (ja_nil))) (je_int)).jx) sc__law_roll.nd rfl (by first | exact Or.inl rfl | exact Or.inr rfl)) (js_cons (js_set (i := 4) ((je_bin opd_add (je_bin opd_mulA (je_bin opd_mod (je_callTy calld_int B.int (by decide +kernel) (ja_cons (je_bin opd_add (je_bin opd_mulA (je_v 3) (je_v 3)) (je_bin opd_mulA (je_int) (je_ixP (i := 0) rfl (by first | exact Or.inl rfl | exact Or.inr (Or.inl rfl) | exact Or.inr (Or.inr rfl)) (je_int)))) (ja_nil))) (je_int)) (je_int)) (je_v 3)).jx) sc__law_roll.nd rfl (by first | exact Or.inl rfl | exact Or.inr rfl)) (js_one (js_ret (je_bin opd_mod (je_callTy calld_int B.int (by decide +kernel) (ja_cons (je_bin opd_fdiv (je_v 4) (je_int)) (ja_nil))) (je_v 1)))))))
abbrev N__law_pick : List Str := ["_law_dice_here", "_law_items"]
abbrev P__law_pick : List Str := ["_law_dice_here", "_law_items"]
theorem sc__law_pick : FnScope N__law_pick P__law_pick (defScope st__law_pick) := ⟨rfl, rfl, rfl, by decide +kernel, rfl, by decide +kernel, by decide +kernel⟩
theorem bs__law_pick : BindsAs "_law_pick" st__law_pick P__law_pick := fun _ _ _ _ _ _ us hl => match us, hl with | [_, _], _ => rfl
def g__law_pick : DS := sRet (dBin dIx (dVar 1) (dCallM 0 2 S__law_roll (aCons (dCall dLen (aCons (dVar 1) (aNil))) (aNil))))
theorem j__law_pick (B : Bl mg) (O__law_roll : Ok P w K mg base "_law_roll" P__law_roll 1 (spM K 2 S__law_roll)) : BodyCx P w K mg base "_law_pick" st__law_pick N__law_pick 1 fun X => JSs X (defBody st__law_pick) g__law_pick := fun f cdv A outer s H E hr => js_one (js_ret (je_ix (je_v 1) (je_fnM O__law_roll (hr.mono (by decide)) (i := 0) rfl (by first | exact Or.inl rfl | exact Or.inr (Or.inl rfl) | exact Or.inr (Or.inr rfl)) (ja_cons (je_callB calld_len B.len (by decide +kernel) (ja_cons (je_v 1) (ja_nil))) (ja_nil)))))
abbrev N__law_mixed : List Str := ["_law_dice_here", "_law_items", "_law_left", "_law_found", "_law_turn"]
abbrev P__law_mixed : List Str := ["_law_dice_here", "_law_items"]
theorem sc__law_mixed : FnScope N__law_mixed P__law_mixed (defScope st__law_mixed) := ⟨rfl, rfl, rfl, by decide +kernel, rfl, by decide +kernel, by decide +kernel⟩
theorem bs__law_mixed : BindsAs "_law_mixed" st__law_mixed P__law_mixed := fun _ _ _ _ _ _ us hl => match us, hl with | [_, _], _ => rfl
def g__law_mixed : DS := sSeq (sPar 2 3 (xOw (lOf (dVar 1))) (xOw (lLst (aNil)))) (sSeq (sFor (iR1 (dCall dLen (aCons (dVar 1) (aNil)))) (gNm 4) (sEx (dApp 3 (dPopAt 2 (dCallM 0 2 S__law_roll (aCons (dCallO 2 dLen) (aNil))))))) (sRetO 3))
theorem j__law_mixed (B : Bl mg) (O__law_roll : Ok P w K mg base "_law_roll" P__law_roll 1 (spM K 2 S__law_roll)) : BodyCx P w K mg base "_law_mixed" st__law_mixed N__law_mixed 1 fun X => JSs X (defBody st__law_mixed) g__law_mixed := fun f cdv A outer s H E hr => js_cons (js_par (i := 2) (j := 3) rfl sc__law_mixed.nd rfl rfl (by decide) rfl rfl ((jl_list B.list (je_v 1)).jx) ((jl_lst (ja_nil)).jx) rfl) (js_cons (js_for (vs := [4]) rfl (ji_r1 B.range (je_callB calld_len B.len (by decide +kernel) (ja_cons (je_v 1) (ja_nil)))) (jg_n 4 sc__law_mixed.nd) (js_one (js_expr (je_app (i := 3) rfl (by first | exact Or.inl rfl | exact Or.inr (Or.inl rfl) | exact Or.inr (Or.inr rfl)) (je_popAt (i := 2) rfl (by first | exact Or.inl rfl | exact Or.inr (Or.inl rfl) | exact Or.inr (Or.inr rfl)) (je_fnM O__law_roll (hr.mono (by decide)) (i := 0) rfl (by first | exact Or.inl rfl | exact Or.inr (Or.inl rfl) | exact Or.inr (Or.inr rfl)) (ja_cons (je_callBO calld_len B.len (by decide +kernel) (i := 2) rfl (by first | exact Or.inl rfl | exact Or.inr (Or.inl rfl) | exact Or.inr (Or.inr rfl))) (ja_nil)))))))) (js_one (js_retO (i := 3) rfl (by first | exact Or.inl rfl | exact Or.inr (Or.inl rfl) | exact Or.inr (Or.inr rfl)))))
abbrev N__law_undone : List Str := ["_law_move", "_law_found", "_law_thing", "_law_goal"]
abbrev P__law_undone : List Str := ["_law_move"]
theorem sc__law_undone : FnScope N__law_undone P__law_undone (defScope st__law_undone) := ⟨rfl, rfl, rfl, by decide +kernel, rfl, by decide +kernel, by decide +kernel⟩
theorem bs__law_undone : BindsAs "_law_undone" st__law_undone P__law_undone := fun _ _ _ _ _ _ us hl => match us, hl with | [_], _ => rfl
def g__law_undone : DS := sSeq (sSet 1 (xOw (lLc (iSq (dVar 0)) (gNm 2) (dYes) (dC (.int 0)) [2]))) (sSeq (sFor (iEn (dVar 0)) (gTp 2 (gsCons (gNm 2) (gsCons (gNm 3) (gsNil)))) (sSub 1 (dVar 3) (dVar 2))) (sRet (dTupO 1)))
theorem j__law_undone (B : Bl mg) : BodyCx P w K mg base "_law_undone" st__law_undone N__law_undone 0 fun X => JSs X (defBody st__law_undone) g__law_undone := fun f cdv A outer s H E hr => js_cons (js_lcO (own := [("_law_thing", 2)]) rfl sc__law_undone.nd (i := 1) rfl rfl (sw_true rfl rfl rfl (by decide +kernel)) (ji_sq (je_v 0)) (blkOk_by (by rfl)) (fun _ _ _ _ _ => jg_n 2 sc__law_undone.nd) (fun _ _ _ _ _ => jts_nil) (fun _ _ _ _ _ => je_int)) (js_cons (js_for (vs := [2, 3]) rfl (ji_en B.enumerate (je_v 0)) (jg_tup rfl (jgs_cons (jg_n 2 sc__law_undone.nd) (jgs_cons (jg_n 3 sc__law_undone.nd) (jgs_nil)))) (js_one (js_sub (i := 1) rfl (by first | exact Or.inl rfl | exact Or.inr (Or.inl rfl) | exact Or.inr (Or.inr rfl)) (je_v 3) (je_v 2)))) (js_one (js_ret (je_tupleO B.tuple (i := 1) rfl (by first | exact Or.inl rfl | exact Or.inr (Or.inl rfl) | exact Or.inr (Or.inr rfl))))))
abbrev N__law_drawn_move : List Str := ["_law_dice_here", "_law_size"]
abbrev P__law_drawn_move : List Str := ["_law_dice_here", "_law_size"]
theorem sc__law_drawn_move : FnScope N__law_drawn_move P__law_drawn_move (defScope st__law_drawn_move) := ⟨rfl, rfl, rfl, by decide +kernel, rfl, by decide +kernel, by decide +kernel⟩
theorem bs__law_drawn_move : BindsAs "_law_drawn_move" st__law_drawn_move P__law_drawn_move := fun _ _ _ _ _ _ us hl => match us, hl with | [_, _], _ => rfl
def g__law_drawn_move : DS := sRet (dCall dTupOf (aCons (dCallM 0 2 S__law_mixed (aCons (dOfL (lRg (rg1 (dVar 1)))) (aNil))) (aNil)))
theorem j__law_drawn_move (B : Bl mg) (O__law_mixed : Ok P w K mg base "_law_mixed" P__law_mixed 2 (spM K 2 S__law_mixed)) : BodyCx P w K mg base "_law_drawn_move" st__law_drawn_move N__law_drawn_move 2 fun X => JSs X (defBody st__law_drawn_move) g__law_drawn_move := fun f cdv A outer s H E hr => js_one (js_ret (je_callTy calld_tuple B.tuple (by decide +kernel) (ja_cons (je_fnM O__law_mixed (hr.mono (by decide)) (i := 0) rfl (by first | exact Or.inl rfl | exact Or.inr (Or.inl rfl) | exact Or.inr (Or.inr rfl)) (ja_cons ((jl_rg rfl B.list (jr_1 B.range (je_v 1))).je) (ja_nil))) (ja_nil))))
abbrev N__law_places_of : List Str := ["_law_count", "_law_size", "_law_at"]
abbrev P__law_places_of : List Str := ["_law_count", "_law_size"]
theorem sc__law_places_of : FnScope N__law_places_of P__law_places_of (defScope st__law_places_of) := ⟨rfl, rfl, rfl, by decide +kernel, rfl, by decide +kernel, by decide +kernel⟩
theorem bs__law_places_of : BindsAs "_law_places_of" st__law_places_of P__law_places_of := fun _ _ _ _ _ _ us hl => match us, hl with | [_, _], _ => rfl
def g__law_places_of : DS := sRet (dOfL (lLc (iR1 (dBin dMulA (dVar 0) (dVar 1))) (gNm 2) (dYes) (dTup (aCons (dBin dFdiv (dVar 2) (dVar 1)) (aCons (dBin dMod (dVar 2) (dVar 1)) (aNil)))) [2]))
theorem j__law_places_of (B : Bl mg) : BodyCx P w K mg base "_law_places_of" st__law_places_of N__law_places_of 0 fun X => JSs X (defBody st__law_places_of) g__law_places_of := fun f cdv A outer s H E hr => js_one (js_ret ((jl_lc (own := [("_law_at", 2)]) rfl sc__law_places_of.nd (ji_r1 B.range (je_bin opd_mulA (je_v 0) (je_v 1))) (blkOk_by (by rfl)) (fun _ _ _ _ _ => jg_n 2 sc__law_places_of.nd) (fun _ _ _ _ _ => jts_nil) (fun _ _ _ _ _ => je_tup (ja_cons (je_bin opd_fdiv (je_v 2) (je_v 1)) (ja_cons (je_bin opd_mod (je_v 2) (je_v 1)) (ja_nil))))).je))
abbrev N__law_product_dots : List Str := ["_law_one", "_law_other", "_law_size", "_law_found", "_law_places", "_law_first", "_law_second", "_law_row", "_law_line", "_law_a", "_law_b"]
abbrev P__law_product_dots : List Str := ["_law_one", "_law_other"]
theorem sc__law_product_dots : FnScope N__law_product_dots P__law_product_dots (defScope st__law_product_dots) := ⟨rfl, rfl, rfl, by decide +kernel, rfl, by decide +kernel, by decide +kernel⟩
theorem bs__law_product_dots : BindsAs "_law_product_dots" st__law_product_dots P__law_product_dots := fun _ _ _ _ _ _ us hl => match us, hl with | [_, _], _ => rfl
def g__law_product_dots : DS := sSeq (sPar 2 3 (xIm (dCall dLen (aCons (dVar 1) (aNil)))) (xOw (lLst (aNil)))) (sSeq (sSet 4 (xIm (dCallF 2 S__law_places_of (aCons (dCall dLen (aCons (dVar 0) (aNil))) (aCons (dVar 2) (aNil)))))) (sSeq (sFor (iSq (dVar 4)) (gTp 2 (gsCons (gNm 5) (gsCons (gNm 6) (gsNil)))) (sSeq (sPar 7 8 (xIm (dBin dIx (dVar 0) (dVar 5))) (xIm (dBin dIx (dVar 1) (dVar 6)))) (sEx (dApp 3 (dCall dTupOf (aCons (dOfL (lLc (iSq (dVar 4)) (gTp 2 (gsCons (gNm 9) (gsCons (gNm 10) (gsNil)))) (dYes) (dBin dAdd (dBin dMulA (dBin dIx (dVar 7) (dVar 9)) (dVar 2)) (dBin dIx (dVar 8) (dVar 10))) [9, 10])) (aNil))))))) (sRetO 3)))
theorem j__law_product_dots (B : Bl mg) (O__law_places_of : Ok P w K mg base "_law_places_of" P__law_places_of 1 (spD K 2 S__law_places_of)) : BodyCx P w K mg base "_law_product_dots" st__law_product_dots N__law_product_dots 1 fun X => JSs X (defBody st__law_product_dots) g__law_product_dots := fun f cdv A outer s H E hr => js_cons (js_parT (i := 2) (j := 3) rfl sc__law_product_dots.nd rfl rfl (by decide) (by first | exact Or.inl rfl | exact Or.inr rfl) (by first | exact Or.inl rfl | exact Or.inr rfl) ((je_callB calld_len B.len (by decide +kernel) (ja_cons (je_v 1) (ja_nil))).jx) ((jl_lst (ja_nil)).jx)) (js_cons (js_set (i := 4) ((je_fn O__law_places_of (hr.mono (by decide)) (ja_cons (je_callB calld_len B.len (by decide +kernel) (ja_cons (je_v 0) (ja_nil))) (ja_cons (je_v 2) (ja_nil)))).jx) sc__law_product_dots.nd rfl (by first | exact Or.inl rfl | exact Or.inr rfl)) (js_cons (js_for (vs := [5, 6]) rfl (ji_sq (je_v 4)) (jg_tup rfl (jgs_cons (jg_n 5 sc__law_product_dots.nd) (jgs_cons (jg_n 6 sc__law_product_dots.nd) (jgs_nil)))) (js_cons (js_parT (i := 7) (j := 8) rfl sc__law_product_dots.nd rfl rfl (by decide) (by first | exact Or.inl rfl | exact Or.inr rfl) (by first | exact Or.inl rfl | exact Or.inr rfl) ((je_ix (je_v 0) (je_v 5)).jx) ((je_ix (je_v 1) (je_v 6)).jx)) (js_one (js_expr (je_app (i := 3) rfl (by first | exact Or.inl rfl | exact Or.inr (Or.inl rfl) | exact Or.inr (Or.inr rfl)) (je_callTy calld_tuple B.tuple (by decide +kernel) (ja_cons ((jl_lc (own := [("_law_a", 9), ("_law_b", 10)]) rfl sc__law_product_dots.nd (ji_sq (je_v 4)) (blkOk_by (by rfl)) (fun _ _ _ _ _ => jg_tup rfl (jgs_cons (jg_n 9 sc__law_product_dots.nd) (jgs_cons (jg_n 10 sc__law_product_dots.nd) (jgs_nil)))) (fun _ _ _ _ _ => jts_nil) (fun _ _ _ _ _ => je_bin opd_add (je_bin opd_mulA (je_ix (je_v 7) (je_v 9)) (je_v 2)) (je_ix (je_v 8) (je_v 10)))).je) (ja_nil)))))))) (js_one (js_retO (i := 3) rfl (by first | exact Or.inl rfl | exact Or.inr (Or.inl rfl) | exact Or.inr (Or.inr rfl))))))
abbrev N__law_cyclic : List Str := ["_law_size", "_law_a", "_law_b"]
abbrev P__law_cyclic : List Str := ["_law_size"]
theorem sc__law_cyclic : FnScope N__law_cyclic P__law_cyclic (defScope st__law_cyclic) := ⟨rfl, rfl, rfl, by decide +kernel, rfl, by decide +kernel, by decide +kernel⟩
theorem bs__law_cyclic : BindsAs "_law_cyclic" st__law_cyclic P__law_cyclic := fun _ _ _ _ _ _ us hl => match us, hl with | [_], _ => rfl
def g__law_cyclic : DS := sRet (dCall dTupOf (aCons (dOfL (lLc (iR1 (dVar 0)) (gNm 1) (dYes) (dCall dTupOf (aCons (dOfL (lLc (iR1 (dVar 0)) (gNm 2) (dYes) (dBin dMod (dCall dInt (aCons (dBin dAdd (dVar 1) (dVar 2)) (aNil))) (dVar 0)) [2])) (aNil))) [1])) (aNil)))
theorem j__law_cyclic (B : Bl mg) : BodyCx P w K mg base "_law_cyclic" st__law_cyclic N__law_cyclic 0 fun X => JSs X (defBody st__law_cyclic) g__law_cyclic := fun f cdv A outer s H E hr => js_one (js_ret (je_callTy calld_tuple B.tuple (by decide +kernel) (ja_cons ((jl_lc (own := [("_law_a", 1)]) rfl sc__law_cyclic.nd (ji_r1 B.range (je_v 0)) (blkOk_by (by rfl)) (fun _ _ _ _ _ => jg_n 1 sc__law_cyclic.nd) (fun _ _ _ _ _ => jts_nil) (fun _ _ _ _ _ => je_callTy calld_tuple B.tuple (by decide +kernel) (ja_cons ((jl_lc (own := [("_law_b", 2)]) rfl sc__law_cyclic.nd (ji_r1 B.range (je_v 0)) (blkOk_by (by rfl)) (fun _ _ _ _ _ => jg_n 2 sc__law_cyclic.nd) (fun _ _ _ _ _ => jts_nil) (fun _ _ _ _ _ => je_bin opd_mod (je_callTy calld_int B.int (by decide +kernel) (ja_cons (je_bin opd_add (je_v 1) (je_v 2)) (ja_nil))) (je_v 0))).je) (ja_nil)))).je) (ja_nil))))
abbrev N__law_direct : List Str := ["_law_one", "_law_other"]
abbrev P__law_direct : List Str := ["_law_one", "_law_other"]
theorem sc__law_direct : FnScope N__law_direct P__law_direct (defScope st__law_direct) := ⟨rfl, rfl, rfl, by decide +kernel, rfl, by decide +kernel, by decide +kernel⟩
theorem bs__law_direct : BindsAs "_law_direct" st__law_direct P__law_direct := fun _ _ _ _ _ _ us hl => match us, hl with | [_, _], _ => rfl
def g__law_direct : DS := sRet (dCall dTupOf (aCons (dCallF 2 S__law_product_dots (aCons (dVar 0) (aCons (dVar 1) (aNil)))) (aNil)))
theorem j__law_direct (B : Bl mg) (O__law_product_dots : Ok P w K mg base "_law_product_dots" P__law_product_dots 2 (spD K 2 S__law_product_dots)) : BodyCx P w K mg base "_law_direct" st__law_direct N__law_direct 2 fun X => JSs X (defBody st__law_direct) g__law_direct := fun f cdv A outer s H E hr => js_one (js_ret (je_callTy calld_tuple B.tuple (by decide +kernel) (ja_cons (je_fn O__law_product_dots (hr.mono (by decide)) (ja_cons (je_v 0) (ja_cons (je_v 1) (ja_nil)))) (ja_nil))))
abbrev N__law_turned_pairs : List Str := ["_law_size", "_law_found", "_law_a", "_law_row", "_law_b", "_law_turn"]
abbrev P__law_turned_pairs : List Str := ["_law_size"]
theorem sc__law_turned_pairs : FnScope N__law_turned_pairs P__law_turned_pairs (defScope st__law_turned_pairs) := ⟨rfl, rfl, rfl, by decide +kernel, rfl, by decide +kernel, by decide +kernel⟩
theorem bs__law_turned_pairs : BindsAs "_law_turned_pairs" st__law_turned_pairs P__law_turned_pairs := fun _ _ _ _ _ _ us hl => match us, hl with | [_], _ => rfl
def g__law_turned_pairs : DS := sSeq (sSet 1 (xOw (lLst (aNil)))) (sSeq (sFor (iR1 (dBin dMulA (dC (.int 2)) (dVar 0))) (gNm 2) (sSeq (sSet 3 (xOw (lLst (aNil)))) (sSeq (sFor (iR1 (dBin dMulA (dC (.int 2)) (dVar 0))) (gNm 4) (sSeq (sSet 5 (xIm (dIfE (dTst (dBin dEq (dBin dMod (dVar 2) (dC (.int 2))) (dC (.int 0)))) (dBin dFdiv (dVar 4) (dC (.int 2))) (dBin dSub (dVar 0) (dBin dFdiv (dVar 4) (dC (.int 2))))))) (sEx (dApp 3 (dBin dAdd (dBin dMulA (dBin dMod (dCall dInt (aCons (dBin dAdd (dBin dFdiv (dVar 2) (dC (.int 2))) (dVar 5)) (aNil))) (dVar 0)) (dC (.int 2))) (dBin dMod (dCall dInt (aCons (dBin dAdd (dVar 2) (dVar 4)) (aNil))) (dC (.int 2)))))))) (sEx (dApp 1 (dTupO 3)))))) (sRet (dTupO 1)))
theorem j__law_turned_pairs (B : Bl mg) : BodyCx P w K mg base "_law_turned_pairs" st__law_turned_pairs N__law_turned_pairs 0 fun X => JSs X (defBody st__law_turned_pairs) g__law_turned_pairs := fun f cdv A outer s H E hr => js_cons (js_set (i := 1) ((jl_lst (ja_nil)).jx) sc__law_turned_pairs.nd rfl (by first | exact Or.inl rfl | exact Or.inr rfl)) (js_cons (js_for (vs := [2]) rfl (ji_r1 B.range (je_bin opd_mulA (je_int) (je_v 0))) (jg_n 2 sc__law_turned_pairs.nd) (js_cons (js_set (i := 3) ((jl_lst (ja_nil)).jx) sc__law_turned_pairs.nd rfl (by first | exact Or.inl rfl | exact Or.inr rfl)) (js_cons (js_for (vs := [4]) rfl (ji_r1 B.range (je_bin opd_mulA (je_int) (je_v 0))) (jg_n 4 sc__law_turned_pairs.nd) (js_cons (js_set (i := 5) ((je_if (jt_cmp (opd_eq hr.units) (je_bin opd_mod (je_v 2) (je_int)) (je_int) (nomark _)) (je_bin opd_fdiv (je_v 4) (je_int)) (je_bin opd_sub (je_v 0) (je_bin opd_fdiv (je_v 4) (je_int)))).jx) sc__law_turned_pairs.nd rfl (by first | exact Or.inl rfl | exact Or.inr rfl)) (js_one (js_expr (je_app (i := 3) rfl (by first | exact Or.inl rfl | exact Or.inr (Or.inl rfl) | exact Or.inr (Or.inr rfl)) (je_bin opd_add (je_bin opd_mulA (je_bin opd_mod (je_callTy calld_int B.int (by decide +kernel) (ja_cons (je_bin opd_add (je_bin opd_fdiv (je_v 2) (je_int)) (je_v 5)) (ja_nil))) (je_v 0)) (je_int)) (je_bin opd_mod (je_callTy calld_int B.int (by decide +kernel) (ja_cons (je_bin opd_add (je_v 2) (je_v 4)) (ja_nil))) (je_int)))))))) (js_one (js_expr (je_app (i := 1) rfl (by first | exact Or.inl rfl | exact Or.inr (Or.inl rfl) | exact Or.inr (Or.inr rfl)) (je_tupleO B.tuple (i := 3) rfl (by first | exact Or.inl rfl | exact Or.inr (Or.inl rfl) | exact Or.inr (Or.inr rfl))))))))) (js_one (js_ret (je_tupleO B.tuple (i := 1) rfl (by first | exact Or.inl rfl | exact Or.inr (Or.inl rfl) | exact Or.inr (Or.inr rfl))))))
abbrev N__law_renamed_group : List Str := ["_law_rows", "_law_order", "_law_back", "_law_a", "_law_b"]
abbrev P__law_renamed_group : List Str := ["_law_rows", "_law_order"]
theorem sc__law_renamed_group : FnScope N__law_renamed_group P__law_renamed_group (defScope st__law_renamed_group) := ⟨rfl, rfl, rfl, by decide +kernel, rfl, by decide +kernel, by decide +kernel⟩
theorem bs__law_renamed_group : BindsAs "_law_renamed_group" st__law_renamed_group P__law_renamed_group := fun _ _ _ _ _ _ us hl => match us, hl with | [_, _], _ => rfl
def g__law_renamed_group : DS := sSeq (sSet 2 (xIm (dCallF 1 S__law_undone (aCons (dVar 1) (aNil))))) (sRet (dCall dTupOf (aCons (dOfL (lLc (iSq (dVar 1)) (gNm 3) (dYes) (dCall dTupOf (aCons (dOfL (lLc (iSq (dVar 1)) (gNm 4) (dYes) (dBin dIx (dVar 2) (dBin dIx (dBin dIx (dVar 0) (dVar 3)) (dVar 4))) [4])) (aNil))) [3])) (aNil))))
theorem j__law_renamed_group (B : Bl mg) (O__law_undone : Ok P w K mg base "_law_undone" P__law_undone 1 (spD K 1 S__law_undone)) : BodyCx P w K mg base "_law_renamed_group" st__law_renamed_group N__law_renamed_group 1 fun X => JSs X (defBody st__law_renamed_group) g__law_renamed_group := fun f cdv A outer s H E hr => js_cons (js_set (i := 2) ((je_fn O__law_undone (hr.mono (by decide)) (ja_cons (je_v 1) (ja_nil))).jx) sc__law_renamed_group.nd rfl (by first | exact Or.inl rfl | exact Or.inr rfl)) (js_one (js_ret (je_callTy calld_tuple B.tuple (by decide +kernel) (ja_cons ((jl_lc (own := [("_law_a", 3)]) rfl sc__law_renamed_group.nd (ji_sq (je_v 1)) (blkOk_by (by rfl)) (fun _ _ _ _ _ => jg_n 3 sc__law_renamed_group.nd) (fun _ _ _ _ _ => jts_nil) (fun _ _ _ _ _ => je_callTy calld_tuple B.tuple (by decide +kernel) (ja_cons ((jl_lc (own := [("_law_b", 4)]) rfl sc__law_renamed_group.nd (ji_sq (je_v 1)) (blkOk_by (by rfl)) (fun _ _ _ _ _ => jg_n 4 sc__law_renamed_group.nd) (fun _ _ _ _ _ => jts_nil) (fun _ _ _ _ _ => je_ix (je_v 2) (je_ix (je_ix (je_v 0) (je_v 3)) (je_v 4)))).je) (ja_nil)))).je) (ja_nil)))))
abbrev N__law_group_rows : List Str := ["_law_dice_here", "_law_most", "_law_some", "_law_even", "_law_rows", "_law_size", "_law_move"]
abbrev P__law_group_rows : List Str := ["_law_dice_here", "_law_most"]
theorem sc__law_group_rows : FnScope N__law_group_rows P__law_group_rows (defScope st__law_group_rows) := ⟨rfl, rfl, rfl, by decide +kernel, rfl, by decide +kernel, by decide +kernel⟩
theorem bs__law_group_rows : BindsAs "_law_group_rows" st__law_group_rows P__law_group_rows := fun _ _ _ _ _ _ us hl => match us, hl with | [_, _], _ => rfl
def g__law_group_rows : DS := sSeq (sSet 2 (xOw (lCat (dOfL (lLc (iR2 (dC (.int 1)) (dBin dAdd (dVar 1) (dC (.int 1)))) (gNm 5) (dYes) (dCallF 1 S__law_cyclic (aCons (dVar 5) (aNil))) [5])) (dOfL (lLst (aCons (dCallF 1 S__law_cyclic (aCons (dVar 1) (aNil))) (aNil))))))) (sSeq (sSet 2 (xOw (lCat (dVarF 2) (dOfL (lLc (iR2 (dC (.int 2)) (dBin dAdd (dBin dFdiv (dVar 1) (dC (.int 2))) (dC (.int 1)))) (gNm 5) (dYes) (dCallF 2 S__law_direct (aCons (dCallF 1 S__law_cyclic (aCons (dC (.int 2)) (aNil))) (aCons (dCallF 1 S__law_cyclic (aCons (dVar 5) (aNil))) (aNil)))) [5]))))) (sSeq (sSet 2 (xOw (lCat (dVarF 2) (dOfL (lLc (iR2 (dC (.int 3)) (dBin dAdd (dBin dFdiv (dVar 1) (dC (.int 2))) (dC (.int 1)))) (gNm 5) (dYes) (dCallF 1 S__law_turned_pairs (aCons (dVar 5) (aNil))) [5]))))) (sSeq (sIf (dTst (dBin dGt (dVar 1) (dC (.int 7)))) (sNever) (sNx)) (sSeq (sIf (dTst (dBin dGt (dVar 1) (dC (.int 8)))) (sNever) (sNx)) (sSeq (sIf (dTst (dBin dGt (dVar 1) (dC (.int 11)))) (sNever) (sNx)) (sSeq (sSet 4 (xIm (dCallM 0 2 S__law_pick (aCons (dVarF 2) (aNil))))) (sRet (dCallF 2 S__law_renamed_group (aCons (dVar 4) (aCons (dCallM 0 2 S__law_drawn_move (aCons (dCall dLen (aCons (dVar 4) (aNil))) (aNil))) (aNil)))))))))))
theorem j__law_group_rows (B : Bl mg) (O__law_cyclic : Ok P w K mg base "_law_cyclic" P__law_cyclic 1 (spD K 1 S__law_cyclic)) (O__law_direct : Ok P w K mg base "_law_direct" P__law_direct 3 (spD K 2 S__law_direct)) (O__law_turned_pairs : Ok P w K mg base "_law_turned_pairs" P__law_turned_pairs 1 (spD K 1 S__law_turned_pairs)) (O__law_pick : Ok P w K mg base "_law_pick" P__law_pick 2 (spM K 2 S__law_pick)) (O__law_renamed_group : Ok P w K mg base "_law_renamed_group" P__law_renamed_group 2 (spD K 2 S__law_renamed_group)) (O__law_drawn_move : Ok P w K mg base "_law_drawn_move" P__law_drawn_move 3 (spM K 2 S__law_drawn_move)) : BodyCx P w K mg base "_law_group_rows" st__law_group_rows N__law_group_rows 3 fun X => JSs X (defBody st__law_group_rows) g__law_group_rows := fun f cdv A outer s H E hr => js_cons (js_set (i := 2) ((jl_cat ((jl_lc (own := [("_law_size", 5)]) rfl sc__law_group_rows.nd (ji_r2 B.range (je_int) (je_bin opd_add (je_v 1) (je_int))) (blkOk_by (by rfl)) (fun _ _ _ _ _ => jg_n 5 sc__law_group_rows.nd) (fun _ _ _ _ _ => jts_nil) (fun _ _ _ _ _ => je_fn O__law_cyclic (hr.mono (by decide)) (ja_cons (je_v 5) (ja_nil)))).je) ((jl_lst (ja_cons (je_fn O__law_cyclic (hr.mono (by decide)) (ja_cons (je_v 1) (ja_nil))) (ja_nil))).je)).jx) sc__law_group_rows.nd rfl (by first | exact Or.inl rfl | exact Or.inr rfl)) (js_cons (js_set (i := 2) ((jl_cat (je_vF 2) ((jl_lc (own := [("_law_size", 5)]) rfl sc__law_group_rows.nd (ji_r2 B.range (je_int) (je_bin opd_add (je_bin opd_fdiv (je_v 1) (je_int)) (je_int))) (blkOk_by (by rfl)) (fun _ _ _ _ _ => jg_n 5 sc__law_group_rows.nd) (fun _ _ _ _ _ => jts_nil) (fun _ _ _ _ _ => je_fn O__law_direct (hr.mono (by decide)) (ja_cons (je_fn O__law_cyclic (hr.mono (by decide)) (ja_cons (je_int) (ja_nil))) (ja_cons (je_fn O__law_cyclic (hr.mono (by decide)) (ja_cons (je_v 5) (ja_nil))) (ja_nil))))).je)).jx) sc__law_group_rows.nd rfl (by first | exact Or.inl rfl | exact Or.inr rfl)) (js_cons (js_set (i := 2) ((jl_cat (je_vF 2) ((jl_lc (own := [("_law_size", 5)]) rfl sc__law_group_rows.nd (ji_r2 B.range (je_int) (je_bin opd_add (je_bin opd_fdiv (je_v 1) (je_int)) (je_int))) (blkOk_by (by rfl)) (fun _ _ _ _ _ => jg_n 5 sc__law_group_rows.nd) (fun _ _ _ _ _ => jts_nil) (fun _ _ _ _ _ => je_fn O__law_turned_pairs (hr.mono (by decide)) (ja_cons (je_v 5) (ja_nil)))).je)).jx) sc__law_group_rows.nd rfl (by first | exact Or.inl rfl | exact Or.inr rfl)) (js_cons (js_if (jt_cmp opd_gt (je_v 1) (je_int) (nomark _)) (jss_never) (js_nil)) (js_cons (js_if (jt_cmp opd_gt (je_v 1) (je_int) (nomark _)) (jss_never) (js_nil)) (js_cons (js_if (jt_cmp opd_gt (je_v 1) (je_int) (nomark _)) (jss_never) (js_nil)) (js_cons (js_set (i := 4) ((je_fnM O__law_pick (hr.mono (by decide)) (i := 0) rfl (by first | exact Or.inl rfl | exact Or.inr (Or.inl rfl) | exact Or.inr (Or.inr rfl)) (ja_cons (je_vF 2) (ja_nil))).jx) sc__law_group_rows.nd rfl (by first | exact Or.inl rfl | exact Or.inr rfl)) (js_one (js_ret (je_fn O__law_renamed_group (hr.mono (by decide)) (ja_cons (je_v 4) (ja_cons (je_fnM O__law_drawn_move (hr.mono (by decide)) (i := 0) rfl (by first | exact Or.inl rfl | exact Or.inr (Or.inl rfl) | exact Or.inr (Or.inr rfl)) (ja_cons (je_callB calld_len B.len (by decide +kernel) (ja_cons (je_v 4) (ja_nil))) (ja_nil))) (ja_nil))))))))))))
abbrev N__law_group_fault : List Str := ["_law_rows", "_law_things", "_law_units", "_law_a", "_law_b", "_law_c", "_law_e"]
abbrev P__law_group_fault : List Str := ["_law_rows"]
theorem sc__law_group_fault : FnScope N__law_group_fault P__law_group_fault (defScope st__law_group_fault) := ⟨rfl, rfl, rfl, by decide +kernel, rfl, by decide +kernel, by decide +kernel⟩
theorem bs__law_group_fault : BindsAs "_law_group_fault" st__law_group_fault P__law_group_fault := fun _ _ _ _ _ _ us hl => match us, hl with | [_], _ => rfl
def g__law_group_fault : DS := sSeq (sSet 1 (xIm (dOfL (lRg (rg1 (dCall dLen (aCons (dVar 0) (aNil)))))))) (sSeq (sSet 2 (xIm (dOfL (lLc (iSq (dVar 1)) (gNm 6) (dTst (dCall dAll (aCons (dOfL (lLc (iSq (dVar 1)) (gNm 3) (dYes) (dAnd (dBin dEq (dBin dIx (dBin dIx (dVar 0) (dVar 6)) (dVar 3)) (dVar 3)) (dBin dEq (dBin dIx (dBin dIx (dVar 0) (dVar 3)) (dVar 6)) (dVar 3))) [3])) (aNil)))) (dVar 6) [6])))) (sSeq (sIf (dTst (dBin dEq (dVar 2) (dOfL (lLst (aNil))))) (sRet (dTup (aCons (dC (.str "unit")) (aNil)))) (sNx)) (sSeq (sFor (iSq (dVar 1)) (gNm 3) (sIf (dTNot (dTst (dCall dAny (aCons (dOfL (lLc (iSq (dVar 1)) (gNm 4) (dYes) (dAnd (dBin dEq (dBin dIx (dBin dIx (dVar 0) (dVar 3)) (dVar 4)) (dBin dIx (dVar 2) (dC (.int 0)))) (dBin dEq (dBin dIx (dBin dIx (dVar 0) (dVar 4)) (dVar 3)) (dBin dIx (dVar 2) (dC (.int 0))))) [4])) (aNil))))) (sRet (dTup (aCons (dC (.str "back")) (aCons (dVar 3) (aNil))))) (sNx))) (sSeq (sFor (iSq (dVar 1)) (gNm 3) (sFor (iSq (dVar 1)) (gNm 4) (sFor (iSq (dVar 1)) (gNm 5) (sIf (dTst (dBin dNe (dBin dIx (dBin dIx (dVar 0) (dBin dIx (dBin dIx (dVar 0) (dVar 3)) (dVar 4))) (dVar 5)) (dBin dIx (dBin dIx (dVar 0) (dVar 3)) (dBin dIx (dBin dIx (dVar 0) (dVar 4)) (dVar 5))))) (sRet (dTup (aCons (dC (.str "three")) (aCons (dVar 3) (aCons (dVar 4) (aCons (dVar 5) (aNil))))))) (sNx))))) (sRet (dTup (aCons (dC (.str "group")) (aNil))))))))
theorem j__law_group_fault (B : Bl mg) : BodyCx P w K mg base "_law_group_fault" st__law_group_fault N__law_group_fault 0 fun X => JSs X (defBody st__law_group_fault) g__law_group_fault := fun f cdv A outer s H E hr => js_cons (js_set (i := 1) (((jl_rg rfl B.list (jr_1 B.range (je_callB calld_len B.len (by decide +kernel) (ja_cons (je_v 0) (ja_nil))))).je).jx) sc__law_group_fault.nd rfl (by first | exact Or.inl rfl | exact Or.inr rfl)) (js_cons (js_set (i := 2) (((jl_lc (own := [("_law_e", 6)]) rfl sc__law_group_fault.nd (ji_sq (je_v 1)) (blkOk_by (by rfl)) (fun _ _ _ _ _ => jg_n 6 sc__law_group_fault.nd) (fun _ _ _ _ _ => jts_one (jt_val (je_callB (calld_all rfl) B.all (by decide +kernel) (ja_cons ((jl_lc (own := [("_law_a", 3)]) rfl sc__law_group_fault.nd (ji_sq (je_v 1)) (blkOk_by (by rfl)) (fun _ _ _ _ _ => jg_n 3 sc__law_group_fault.nd) (fun _ _ _ _ _ => jts_nil) (fun _ _ _ _ _ => je_and (je_cmp (opd_eq hr.units) (je_ix (je_ix (je_v 0) (je_v 6)) (je_v 3)) (je_v 3) (nomark _)) (je_one (je_cmp (opd_eq hr.units) (je_ix (je_ix (je_v 0) (je_v 3)) (je_v 6)) (je_v 3) (nomark _))))).je) (ja_nil))))) (fun _ _ _ _ _ => je_v 6)).je).jx) sc__law_group_fault.nd rfl (by first | exact Or.inl rfl | exact Or.inr rfl)) (js_cons (js_if (jt_cmp (opd_eq hr.units) (je_v 2) ((jl_lst (ja_nil)).je) (nomark _)) (js_one (js_ret (je_tup (ja_cons (je_str) (ja_nil))))) (js_nil)) (js_cons (js_for (vs := [3]) rfl (ji_sq (je_v 1)) (jg_n 3 sc__law_group_fault.nd) (js_one (js_if (jt_not (jt_val (je_callB (calld_any rfl) B.any (by decide +kernel) (ja_cons ((jl_lc (own := [("_law_b", 4)]) rfl sc__law_group_fault.nd (ji_sq (je_v 1)) (blkOk_by (by rfl)) (fun _ _ _ _ _ => jg_n 4 sc__law_group_fault.nd) (fun _ _ _ _ _ => jts_nil) (fun _ _ _ _ _ => je_and (je_cmp (opd_eq hr.units) (je_ix (je_ix (je_v 0) (je_v 3)) (je_v 4)) (je_ix (je_v 2) (je_int)) (nomark _)) (je_one (je_cmp (opd_eq hr.units) (je_ix (je_ix (je_v 0) (je_v 4)) (je_v 3)) (je_ix (je_v 2) (je_int)) (nomark _))))).je) (ja_nil))))) (js_one (js_ret (je_tup (ja_cons (je_str) (ja_cons (je_v 3) (ja_nil)))))) (js_nil)))) (js_cons (js_for (vs := [3]) rfl (ji_sq (je_v 1)) (jg_n 3 sc__law_group_fault.nd) (js_one (js_for (vs := [4]) rfl (ji_sq (je_v 1)) (jg_n 4 sc__law_group_fault.nd) (js_one (js_for (vs := [5]) rfl (ji_sq (je_v 1)) (jg_n 5 sc__law_group_fault.nd) (js_one (js_if (jt_cmp (opd_ne hr.units) (je_ix (je_ix (je_v 0) (je_ix (je_ix (je_v 0) (je_v 3)) (je_v 4))) (je_v 5)) (je_ix (je_ix (je_v 0) (je_v 3)) (je_ix (je_ix (je_v 0) (je_v 4)) (je_v 5))) (nomark _)) (js_one (js_ret (je_tup (ja_cons (je_str) (ja_cons (je_v 3) (ja_cons (je_v 4) (ja_cons (je_v 5) (ja_nil)))))))) (js_nil)))))))) (js_one (js_ret (je_tup (ja_cons (je_str) (ja_nil)))))))))
abbrev N__law_with_entry : List Str := ["_law_rows", "_law_a", "_law_b", "_law_value", "_law_row"]
abbrev P__law_with_entry : List Str := ["_law_rows", "_law_a", "_law_b", "_law_value"]
theorem sc__law_with_entry : FnScope N__law_with_entry P__law_with_entry (defScope st__law_with_entry) := ⟨rfl, rfl, rfl, by decide +kernel, rfl, by decide +kernel, by decide +kernel⟩
theorem bs__law_with_entry : BindsAs "_law_with_entry" st__law_with_entry P__law_with_entry := fun _ _ _ _ _ _ us hl => match us, hl with | [_, _, _, _], _ => rfl
def g__law_with_entry : DS := sSeq (sSet 4 (xIm (dBin dAdd (dBin dAdd (dSl (dBin dIx (dVar 0) (dVar 1)) (oNone) (oSome (dVar 2))) (dTup (aCons (dVar 3) (aNil)))) (dSl (dBin dIx (dVar 0) (dVar 1)) (oSome (dBin dAdd (dVar 2) (dC (.int 1)))) (oNone))))) (sRet (dBin dAdd (dBin dAdd (dSl (dVar 0) (oNone) (oSome (dVar 1))) (dTup (aCons (dVar 4) (aNil)))) (dSl (dVar 0) (oSome (dBin dAdd (dVar 1) (dC (.int 1)))) (oNone))))
theorem j__law_with_entry : BodyCx P w K mg base "_law_with_entry" st__law_with_entry N__law_with_entry 0 fun X => JSs X (defBody st__law_with_entry) g__law_with_entry := fun f cdv A outer s H E hr => js_cons (js_set (i := 4) ((je_bin opd_add (je_bin opd_add (je_sl (je_ix (je_v 0) (je_v 1)) (jo_none) (jo_some (je_v 2))) (je_tup (ja_cons (je_v 3) (ja_nil)))) (je_sl (je_ix (je_v 0) (je_v 1)) (jo_some (je_bin opd_add (je_v 2) (je_int))) (jo_none))).jx) sc__law_with_entry.nd rfl (by first | exact Or.inl rfl | exact Or.inr rfl)) (js_one (js_ret (je_bin opd_add (je_bin opd_add (je_sl (je_v 0) (jo_none) (jo_some (je_v 1))) (je_tup (ja_cons (je_v 4) (ja_nil)))) (je_sl (je_v 0) (jo_some (je_bin opd_add (je_v 1) (je_int))) (jo_none)))))
abbrev N__law_near_group : List Str := ["_law_dice_here", "_law_rows", "_law_size", "_law_found", "_law_way", "_law_order", "_law_turn", "_law_a", "_law_b"]
abbrev P__law_near_group : List Str := ["_law_dice_here", "_law_rows"]
theorem sc__law_near_group : FnScope N__law_near_group P__law_near_group (defScope st__law_near_group) := ⟨rfl, rfl, rfl, by decide +kernel, rfl, by decide +kernel, by decide +kernel⟩
theorem bs__law_near_group : BindsAs "_law_near_group" st__law_near_group P__law_near_group := fun _ _ _ _ _ _ us hl => match us, hl with | [_, _], _ => rfl
def g__law_near_group : DS := sSeq (sPar 2 3 (xIm (dCall dLen (aCons (dVar 1) (aNil)))) (xIm (dVar 1))) (sSeq (sSet 4 (xIm (dCallM 0 2 S__law_roll (aCons (dC (.int 5)) (aNil))))) (sSeq (sIf (dTst (dBin dEq (dVar 4) (dC (.int 0)))) (sRet (dCall dTupOf (aCons (dOfL (lLc (iSq (dVar 1)) (gNm 7) (dYes) (dCall dTupOf (aCons (dOfL (lLc (iSq (dVar 1)) (gNm 8) (dYes) (dCallM 0 2 S__law_roll (aCons (dVar 2) (aNil))) [8])) (aNil))) [7])) (aNil)))) (sNx)) (sSeq (sIf (dTst (dBin dEq (dVar 4) (dC (.int 1)))) (sSeq (sSet 5 (xIm (dCallM 0 2 S__law_drawn_move (aCons (dVar 2) (aNil))))) (sRet (dCall dTupOf (aCons (dOfL (lLc (iSq (dVar 5)) (gNm 7) (dYes) (dBin dIx (dVar 1) (dVar 7)) [7])) (aNil))))) (sNx)) (sSeq (sFor (iR1 (dBin dSub (dVar 4) (dC (.int 1)))) (gNm 6) (sSet 3 (xIm (dCallF 4 S__law_with_entry (aCons (dVar 3) (aCons (dCallM 0 2 S__law_roll (aCons (dVar 2) (aNil))) (aCons (dCallM 0 2 S__law_roll (aCons (dVar 2) (aNil))) (aCons (dCallM 0 2 S__law_roll (aCons (dVar 2) (aNil))) (aNil))))))))) (sRet (dVar 3))))))
theorem j__law_near_group (B : Bl mg) (O__law_roll : Ok P w K mg base "_law_roll" P__law_roll 1 (spM K 2 S__law_roll)) (O__law_drawn_move : Ok P w K mg base "_law_drawn_move" P__law_drawn_move 3 (spM K 2 S__law_drawn_move)) (O__law_with_entry : Ok P w K mg base "_law_with_entry" P__law_with_entry 1 (spD K 4 S__law_with_entry)) : BodyCx P w K mg base "_law_near_group" st__law_near_group N__law_near_group 3 fun X => JSs X (defBody st__law_near_group) g__law_near_group := fun f cdv A outer s H E hr => js_cons (js_parT (i := 2) (j := 3) rfl sc__law_near_group.nd rfl rfl (by decide) (by first | exact Or.inl rfl | exact Or.inr rfl) (by first | exact Or.inl rfl | exact Or.inr rfl) ((je_callB calld_len B.len (by decide +kernel) (ja_cons (je_v 1) (ja_nil))).jx) ((je_v 1).jx)) (js_cons (js_set (i := 4) ((je_fnM O__law_roll (hr.mono (by decide)) (i := 0) rfl (by first | exact Or.inl rfl | exact Or.inr (Or.inl rfl) | exact Or.inr (Or.inr rfl)) (ja_cons (je_int) (ja_nil))).jx) sc__law_near_group.nd rfl (by first | exact Or.inl rfl | exact Or.inr rfl)) (js_cons (js_if (jt_cmp (opd_eq hr.units) (je_v 4) (je_int) (nomark _)) (js_one (js_ret (je_callTy calld_tuple B.tuple (by decide +kernel) (ja_cons ((jl_lc (own := [("_law_a", 7)]) rfl sc__law_near_group.nd (ji_sq (je_v 1)) (blkOk_by (by rfl)) (fun _ _ _ _ _ => jg_n 7 sc__law_near_group.nd) (fun _ _ _ _ _ => jts_nil) (fun _ _ _ _ _ => je_callTy calld_tuple B.tuple (by decide +kernel) (ja_cons ((jl_lc (own := [("_law_b", 8)]) rfl sc__law_near_group.nd (ji_sq (je_v 1)) (blkOk_by (by rfl)) (fun _ _ _ _ _ => jg_n 8 sc__law_near_group.nd) (fun _ _ _ _ _ => jts_nil) (fun _ _ _ _ _ => je_fnM O__law_roll (hr.mono (by decide)) (i := 0) rfl (by first | exact Or.inl rfl | exact Or.inr (Or.inl rfl) | exact Or.inr (Or.inr rfl)) (ja_cons (je_v 2) (ja_nil)))).je) (ja_nil)))).je) (ja_nil))))) (js_nil)) (js_cons (js_if (jt_cmp (opd_eq hr.units) (je_v 4) (je_int) (nomark _)) (js_cons (js_set (i := 5) ((je_fnM O__law_drawn_move (hr.mono (by decide)) (i := 0) rfl (by first | exact Or.inl rfl | exact Or.inr (Or.inl rfl) | exact Or.inr (Or.inr rfl)) (ja_cons (je_v 2) (ja_nil))).jx) sc__law_near_group.nd rfl (by first | exact Or.inl rfl | exact Or.inr rfl)) (js_one (js_ret (je_callTy calld_tuple B.tuple (by decide +kernel) (ja_cons ((jl_lc (own := [("_law_a", 7)]) rfl sc__law_near_group.nd (ji_sq (je_v 5)) (blkOk_by (by rfl)) (fun _ _ _ _ _ => jg_n 7 sc__law_near_group.nd) (fun _ _ _ _ _ => jts_nil) (fun _ _ _ _ _ => je_ix (je_v 1) (je_v 7))).je) (ja_nil)))))) (js_nil)) (js_cons (js_for (vs := [6]) rfl (ji_r1 B.range (je_bin opd_sub (je_v 4) (je_int))) (jg_n 6 sc__law_near_group.nd) (js_one (js_set (i := 3) ((je_fn O__law_with_entry (hr.mono (by decide)) (ja_cons (je_v 3) (ja_cons (je_fnM O__law_roll (hr.mono (by decide)) (i := 0) rfl (by first | exact Or.inl rfl | exact Or.inr (Or.inl rfl) | exact Or.inr (Or.inr rfl)) (ja_cons (je_v 2) (ja_nil))) (ja_cons (je_fnM O__law_roll (hr.mono (by decide)) (i := 0) rfl (by first | exact Or.inl rfl | exact Or.inr (Or.inl rfl) | exact Or.inr (Or.inr rfl)) (ja_cons (je_v 2) (ja_nil))) (ja_cons (je_fnM O__law_roll (hr.mono (by decide)) (i := 0) rfl (by first | exact Or.inl rfl | exact Or.inr (Or.inl rfl) | exact Or.inr (Or.inr rfl)) (ja_cons (je_v 2) (ja_nil))) (ja_nil)))))).jx) sc__law_near_group.nd rfl (by first | exact Or.inl rfl | exact Or.inr rfl)))) (js_one (js_ret (je_v 3)))))))
abbrev N__law_is_so : List Str := ["_law_rows", "_law_paper", "_law_things", "_law_units", "_law_a", "_law_backs", "_law_b", "_law_c", "_law_e"]
abbrev P__law_is_so : List Str := ["_law_rows", "_law_paper"]
theorem sc__law_is_so : FnScope N__law_is_so P__law_is_so (defScope st__law_is_so) := ⟨rfl, rfl, rfl, by decide +kernel, rfl, by decide +kernel, by decide +kernel⟩
theorem bs__law_is_so : BindsAs "_law_is_so" st__law_is_so P__law_is_so := fun _ _ _ _ _ _ us hl => match us, hl with | [_, _], _ => rfl
def g__law_is_so : DS := sSeq (sSet 2 (xIm (dOfL (lRg (rg1 (dCall dLen (aCons (dVar 0) (aNil)))))))) (sSeq (sSet 3 (xIm (dOfL (lLc (iSq (dVar 2)) (gNm 8) (dTst (dCall dAll (aCons (dOfL (lLc (iSq (dVar 2)) (gNm 4) (dYes) (dAnd (dBin dEq (dBin dIx (dBin dIx (dVar 0) (dVar 8)) (dVar 4)) (dVar 4)) (dBin dEq (dBin dIx (dBin dIx (dVar 0) (dVar 4)) (dVar 8)) (dVar 4))) [4])) (aNil)))) (dVar 8) [8])))) (sSeq (sIf (dTst (dBin dEq (dBin dIx (dVar 1) (dC (.int 0))) (dC (.str "group")))) (sRet (dBin dEq (dCallF 1 S__law_group_fault (aCons (dVar 0) (aNil))) (dTup (aCons (dC (.str "group")) (aNil))))) (sNx)) (sSeq (sIf (dTst (dBin dEq (dBin dIx (dVar 1) (dC (.int 0))) (dC (.str "unit")))) (sRet (dBin dEq (dVar 3) (dOfL (lLst (aNil))))) (sNx)) (sSeq (sIf (dTst (dBin dEq (dBin dIx (dVar 1) (dC (.int 0))) (dC (.str "back")))) (sSeq (sSet 4 (xIm (dBin dIx (dVar 1) (dC (.int 1))))) (sSeq (sSet 5 (xIm (dOfL (lLc (iSq (dVar 2)) (gNm 6) (dTAnd (dTst (dBin dNe (dVar 3) (dOfL (lLst (aNil))))) (dTAnd (dTst (dBin dEq (dBin dIx (dBin dIx (dVar 0) (dVar 4)) (dVar 6)) (dBin dIx (dVar 3) (dC (.int 0))))) (dTst (dBin dEq (dBin dIx (dBin dIx (dVar 0) (dVar 6)) (dVar 4)) (dBin dIx (dVar 3) (dC (.int 0))))))) (dVar 6) [6])))) (sRet (dAnd (dBin dNe (dVar 3) (dOfL (lLst (aNil)))) (dBin dEq (dVar 5) (dOfL (lLst (aNil)))))))) (sNx)) (sSeq (sAsg (dSl (dVar 1) (oSome (dC (.int 1))) (oNone)) (gTp 3 (gsCons (gNm 4) (gsCons (gNm 6) (gsCons (gNm 7) (gsNil)))))) (sRet (dBin dNe (dBin dIx (dBin dIx (dVar 0) (dBin dIx (dBin dIx (dVar 0) (dVar 4)) (dVar 6))) (dVar 7)) (dBin dIx (dBin dIx (dVar 0) (dVar 4)) (dBin dIx (dBin dIx (dVar 0) (dVar 6)) (dVar 7))))))))))
theorem j__law_is_so (B : Bl mg) (O__law_group_fault : Ok P w K mg base "_law_group_fault" P__law_group_fault 1 (spD K 1 S__law_group_fault)) : BodyCx P w K mg base "_law_is_so" st__law_is_so N__law_is_so 1 fun X => JSs X (defBody st__law_is_so) g__law_is_so := fun f cdv A outer s H E hr => js_cons (js_set (i := 2) (((jl_rg rfl B.list (jr_1 B.range (je_callB calld_len B.len (by decide +kernel) (ja_cons (je_v 0) (ja_nil))))).je).jx) sc__law_is_so.nd rfl (by first | exact Or.inl rfl | exact Or.inr rfl)) (js_cons (js_set (i := 3) (((jl_lc (own := [("_law_e", 8)]) rfl sc__law_is_so.nd (ji_sq (je_v 2)) (blkOk_by (by rfl)) (fun _ _ _ _ _ => jg_n 8 sc__law_is_so.nd) (fun _ _ _ _ _ => jts_one (jt_val (je_callB (calld_all rfl) B.all (by decide +kernel) (ja_cons ((jl_lc (own := [("_law_a", 4)]) rfl sc__law_is_so.nd (ji_sq (je_v 2)) (blkOk_by (by rfl)) (fun _ _ _ _ _ => jg_n 4 sc__law_is_so.nd) (fun _ _ _ _ _ => jts_nil) (fun _ _ _ _ _ => je_and (je_cmp (opd_eq hr.units) (je_ix (je_ix (je_v 0) (je_v 8)) (je_v 4)) (je_v 4) (nomark _)) (je_one (je_cmp (opd_eq hr.units) (je_ix (je_ix (je_v 0) (je_v 4)) (je_v 8)) (je_v 4) (nomark _))))).je) (ja_nil))))) (fun _ _ _ _ _ => je_v 8)).je).jx) sc__law_is_so.nd rfl (by first | exact Or.inl rfl | exact Or.inr rfl)) (js_cons (js_if (jt_cmp (opd_eq hr.units) (je_ix (je_v 1) (je_int)) (je_str) (nomark _)) (js_one (js_ret (je_cmp (opd_eq hr.units) (je_fn O__law_group_fault (hr.mono (by decide)) (ja_cons (je_v 0) (ja_nil))) (je_tup (ja_cons (je_str) (ja_nil))) (nomark _)))) (js_nil)) (js_cons (js_if (jt_cmp (opd_eq hr.units) (je_ix (je_v 1) (je_int)) (je_str) (nomark _)) (js_one (js_ret (je_cmp (opd_eq hr.units) (je_v 3) ((jl_lst (ja_nil)).je) (nomark _)))) (js_nil)) (js_cons (js_if (jt_cmp (opd_eq hr.units) (je_ix (je_v 1) (je_int)) (je_str) (nomark _)) (js_cons (js_set (i := 4) ((je_ix (je_v 1) (je_int)).jx) sc__law_is_so.nd rfl (by first | exact Or.inl rfl | exact Or.inr rfl)) (js_cons (js_lcF (own := [("_law_b", 6)]) rfl sc__law_is_so.nd (i := 5) rfl rfl (sw_true rfl rfl rfl (by decide +kernel)) (ji_sq (je_v 2)) (blkOk_by (by rfl)) (fun _ _ _ _ _ => jg_n 6 sc__law_is_so.nd) (fun _ _ _ _ _ => jts_one ((jw_and (jt_cmp (opd_ne hr.units) (je_v 3) ((jl_lst (ja_nil)).je) (nomark _)) (jw_and (jt_cmp (opd_eq hr.units) (je_ix (je_ix (je_v 0) (je_v 4)) (je_v 6)) (je_ix (je_v 3) (je_int)) (nomark _)) (jw_and1 (jt_cmp (opd_eq hr.units) (je_ix (je_ix (je_v 0) (je_v 6)) (je_v 4)) (je_ix (je_v 3) (je_int)) (nomark _))))).jt)) (fun _ _ _ _ _ => je_v 6)) (js_one (js_ret (je_and (je_cmp (opd_ne hr.units) (je_v 3) ((jl_lst (ja_nil)).je) (nomark _)) (je_one (je_cmp (opd_eq hr.units) (je_v 5) ((jl_lst (ja_nil)).je) (nomark _)))))))) (js_nil)) (js_cons (js_asg (vs := [4, 6, 7]) (je_sl (je_v 1) (jo_some (je_int)) (jo_none)) (jg_tup rfl (jgs_cons (jg_n 4 sc__law_is_so.nd) (jgs_cons (jg_n 6 sc__law_is_so.nd) (jgs_cons (jg_n 7 sc__law_is_so.nd) (jgs_nil)))))) (js_one (js_ret (je_cmp (opd_ne hr.units) (je_ix (je_ix (je_v 0) (je_ix (je_ix (je_v 0) (je_v 4)) (je_v 6))) (je_v 7)) (je_ix (je_ix (je_v 0) (je_v 4)) (je_ix (je_ix (je_v 0) (je_v 6)) (je_v 7))) (nomark _)))))))))
abbrev N__law_papers : List Str := ["_law_dice_here", "_law_size", "_law_found", "_law_turn", "_law_a"]
abbrev P__law_papers : List Str := ["_law_dice_here", "_law_size"]
theorem sc__law_papers : FnScope N__law_papers P__law_papers (defScope st__law_papers) := ⟨rfl, rfl, rfl, by decide +kernel, rfl, by decide +kernel, by decide +kernel⟩
theorem bs__law_papers : BindsAs "_law_papers" st__law_papers P__law_papers := fun _ _ _ _ _ _ us hl => match us, hl with | [_, _], _ => rfl
def g__law_papers : DS := sSeq (sSet 2 (xOw (lCat (dOfL (lLst (aCons (dTup (aCons (dC (.str "unit")) (aNil))) (aCons (dTup (aCons (dC (.str "group")) (aNil))) (aNil))))) (dOfL (lLc (iR1 (dVar 1)) (gNm 4) (dYes) (dTup (aCons (dC (.str "back")) (aCons (dVar 4) (aNil)))) [4]))))) (sSeq (sFor (iR1 (dC (.int 30))) (gNm 3) (sEx (dApp 2 (dTup (aCons (dC (.str "three")) (aCons (dCallM 0 2 S__law_roll (aCons (dVar 1) (aNil))) (aCons (dCallM 0 2 S__law_roll (aCons (dVar 1) (aNil))) (aCons (dCallM 0 2 S__law_roll (aCons (dVar 1) (aNil))) (aNil))))))))) (sRetO 2))
theorem j__law_papers (B : Bl mg) (O__law_roll : Ok P w K mg base "_law_roll" P__law_roll 1 (spM K 2 S__law_roll)) : BodyCx P w K mg base "_law_papers" st__law_papers N__law_papers 1 fun X => JSs X (defBody st__law_papers) g__law_papers := fun f cdv A outer s H E hr => js_cons (js_set (i := 2) ((jl_cat ((jl_lst (ja_cons (je_tup (ja_cons (je_str) (ja_nil))) (ja_cons (je_tup (ja_cons (je_str) (ja_nil))) (ja_nil)))).je) ((jl_lc (own := [("_law_a", 4)]) rfl sc__law_papers.nd (ji_r1 B.range (je_v 1)) (blkOk_by (by rfl)) (fun _ _ _ _ _ => jg_n 4 sc__law_papers.nd) (fun _ _ _ _ _ => jts_nil) (fun _ _ _ _ _ => je_tup (ja_cons (je_str) (ja_cons (je_v 4) (ja_nil))))).je)).jx) sc__law_papers.nd rfl (by first | exact Or.inl rfl | exact Or.inr rfl)) (js_cons (js_for (vs := [3]) rfl (ji_r1 B.range (je_int)) (jg_n 3 sc__law_papers.nd) (js_one (js_expr (je_app (i := 2) rfl (by first | exact Or.inl rfl | exact Or.inr (Or.inl rfl) | exact Or.inr (Or.inr rfl)) (je_tup (ja_cons (je_str) (ja_cons (je_fnM O__law_roll (hr.mono (by decide)) (i := 0) rfl (by first | exact Or.inl rfl | exact Or.inr (Or.inl rfl) | exact Or.inr (Or.inr rfl)) (ja_cons (je_v 1) (ja_nil))) (ja_cons (je_fnM O__law_roll (hr.mono (by decide)) (i := 0) rfl (by first | exact Or.inl rfl | exact Or.inr (Or.inl rfl) | exact Or.inr (Or.inr rfl)) (ja_cons (je_v 1) (ja_nil))) (ja_cons (je_fnM O__law_roll (hr.mono (by decide)) (i := 0) rfl (by first | exact Or.inl rfl | exact Or.inr (Or.inl rfl) | exact Or.inr (Or.inr rfl)) (ja_cons (je_v 1) (ja_nil))) (ja_nil)))))))))) (js_one (js_retO (i := 2) rfl (by first | exact Or.inl rfl | exact Or.inr (Or.inl rfl) | exact Or.inr (Or.inr rfl)))))
abbrev N__law_odd_values : List Str := ["_law_size", "_law_found"]
abbrev P__law_odd_values : List Str := ["_law_size"]
theorem sc__law_odd_values : FnScope N__law_odd_values P__law_odd_values (defScope st__law_odd_values) := ⟨rfl, rfl, rfl, by decide +kernel, rfl, by decide +kernel, by decide +kernel⟩
theorem bs__law_odd_values : BindsAs "_law_odd_values" st__law_odd_values P__law_odd_values := fun _ _ _ _ _ _ us hl => match us, hl with | [_], _ => rfl
def g__law_odd_values : DS := sSeq (sSet 1 (xIm (dOfL (lLst (aCons (dC .none) (aCons (dTup (aNil)) (aCons (dC (.str "unit")) (aCons (dOfL (lLst (aCons (dC (.str "unit")) (aNil)))) (aCons (dTup (aCons (dC (.str "unit")) (aCons (dC (.int 0)) (aNil)))) (aCons (dTup (aCons (dC (.str "group")) (aCons (dC (.int 1)) (aNil)))) (aCons (dTup (aCons (dC (.str "back")) (aNil))) (aCons (dTup (aCons (dC (.str "back")) (aCons (dVar 0) (aNil)))) (aCons (dTup (aCons (dC (.str "back")) (aCons (dNeg (dC (.int 1))) (aNil)))) (aCons (dTup (aCons (dC (.str "back")) (aCons (dC .none) (aNil)))) (aNil))))))))))))))) (sSeq (sSet 1 (xIm (dBin dAdd (dVar 1) (dOfL (lLst (aCons (dTup (aCons (dC (.str "back")) (aCons (dC (.bool true)) (aNil)))) (aCons (dTup (aCons (dC (.str "back")) (aCons (dC (.str "0")) (aNil)))) (aCons (dTup (aCons (dC (.str "three")) (aCons (dC (.int 0)) (aCons (dC (.int 0)) (aNil))))) (aCons (dTup (aCons (dC (.str "three")) (aCons (dC (.int 0)) (aCons (dC (.int 0)) (aCons (dVar 0) (aNil)))))) (aCons (dTup (aCons (dC (.str "three")) (aCons (dC (.int 0)) (aCons (dC (.int 0)) (aCons (dC (.int 0)) (aCons (dC (.int 0)) (aNil))))))) (aCons (dC (.int 7)) (aCons (dC (.dict [])) (aNil))))))))))))) (sRet (dBin dAdd (dVar 1) (dOfL (lLst (aCons (dTup (aCons (dC (.str "three")) (aCons (dC (.bool false)) (aCons (dC (.bool false)) (aCons (dC (.bool false)) (aNil)))))) (aCons (dTup (aCons (dC (.str "three")) (aCons (dNeg (dC (.int 1))) (aCons (dNeg (dC (.int 1))) (aCons (dNeg (dC (.int 1))) (aNil)))))) (aCons (dTup (aCons (dC (.str "three")) (aCons (dC .none) (aCons (dC (.int 0)) (aCons (dC (.int 0)) (aNil)))))) (aCons (dTup (aCons (dC (.str "side")) (aCons (dC (.int 0)) (aNil)))) (aCons (dTup (aCons (dC (.int 0)) (aCons (dC (.int 1)) (aNil)))) (aNil)))))))))))
theorem j__law_odd_values : BodyCx P w K mg base "_law_odd_values" st__law_odd_values N__law_odd_values 0 fun X => JSs X (defBody st__law_odd_values) g__law_odd_values := fun f cdv A outer s H E hr => js_cons (js_set (i := 1) (((jl_lst (ja_cons (je_non) (ja_cons (je_tup (ja_nil)) (ja_cons (je_str) (ja_cons ((jl_lst (ja_cons (je_str) (ja_nil))).je) (ja_cons (je_tup (ja_cons (je_str) (ja_cons (je_int) (ja_nil)))) (ja_cons (je_tup (ja_cons (je_str) (ja_cons (je_int) (ja_nil)))) (ja_cons (je_tup (ja_cons (je_str) (ja_nil))) (ja_cons (je_tup (ja_cons (je_str) (ja_cons (je_v 0) (ja_nil)))) (ja_cons (je_tup (ja_cons (je_str) (ja_cons (je_neg (je_int)) (ja_nil)))) (ja_cons (je_tup (ja_cons (je_str) (ja_cons (je_non) (ja_nil)))) (ja_nil)))))))))))).je).jx) sc__law_odd_values.nd rfl (by first | exact Or.inl rfl | exact Or.inr rfl)) (js_cons (js_set (i := 1) ((je_bin opd_add (je_v 1) ((jl_lst (ja_cons (je_tup (ja_cons (je_str) (ja_cons (je_bl) (ja_nil)))) (ja_cons (je_tup (ja_cons (je_str) (ja_cons (je_str) (ja_nil)))) (ja_cons (je_tup (ja_cons (je_str) (ja_cons (je_int) (ja_cons (je_int) (ja_nil))))) (ja_cons (je_tup (ja_cons (je_str) (ja_cons (je_int) (ja_cons (je_int) (ja_cons (je_v 0) (ja_nil)))))) (ja_cons (je_tup (ja_cons (je_str) (ja_cons (je_int) (ja_cons (je_int) (ja_cons (je_int) (ja_cons (je_int) (ja_nil))))))) (ja_cons (je_int) (ja_cons (je_dict0) (ja_nil))))))))).je)).jx) sc__law_odd_values.nd rfl (by first | exact Or.inl rfl | exact Or.inr rfl)) (js_one (js_ret (je_bin opd_add (je_v 1) ((jl_lst (ja_cons (je_tup (ja_cons (je_str) (ja_cons (je_bl) (ja_cons (je_bl) (ja_cons (je_bl) (ja_nil)))))) (ja_cons (je_tup (ja_cons (je_str) (ja_cons (je_neg (je_int)) (ja_cons (je_neg (je_int)) (ja_cons (je_neg (je_int)) (ja_nil)))))) (ja_cons (je_tup (ja_cons (je_str) (ja_cons (je_non) (ja_cons (je_int) (ja_cons (je_int) (ja_nil)))))) (ja_cons (je_tup (ja_cons (je_str) (ja_cons (je_int) (ja_nil)))) (ja_cons (je_tup (ja_cons (je_int) (ja_cons (je_int) (ja_nil)))) (ja_nil))))))).je)))))
abbrev N_law : List Str := ["_law_script", "_law_spot", "_law_dice_here", "_law_rows", "_law_paper", "_law_one", "_law_told", "_law_value", "_law_a"]
abbrev P_law : List Str := ["_law_script"]
theorem sc_law : FnScope N_law P_law (defScope st_law) := ⟨rfl, rfl, rfl, by decide +kernel, rfl, by decide +kernel, by decide +kernel⟩
theorem bs_law : BindsAs "law" st_law P_law := fun _ _ _ _ _ _ us hl => match us, hl with | [_], _ => rfl
def g_law : DS := sSeq (sFor (iR1 (dCall dMax2 (aCons (dC (.int 1)) (aCons (dCall dMin2 (aCons (dC (.int 6)) (aCons (dCall dLen (aCons (dVar 0) (aNil))) (aNil)))) (aNil))))) (gNm 1) (sSeq (sSet 2 (xOw (lCall 2 S__law_dice (aCons (dVar 0) (aCons (dVar 1) (aNil)))))) (sSeq (sSet 3 (xIm (dCallM 2 2 S__law_near_group (aCons (dCallM 2 2 S__law_group_rows (aCons (dC (.int 6)) (aNil))) (aNil))))) (sSeq (sFor (iSq (dCallM 2 2 S__law_papers (aCons (dCall dLen (aCons (dVar 3) (aNil))) (aNil)))) (gNm 4) (sIf (dTst (dBin dNe (dCall dRepB (aCons (dCallF 2 S_is_group_paper (aCons (dVar 3) (aCons (dVar 4) (aNil)))) (aNil))) (dCall dRepB (aCons (dCallF 2 S__law_is_so (aCons (dVar 3) (aCons (dVar 4) (aNil)))) (aNil))))) (sRet (dC (.bool false))) (sNx))) (sIf (dTNot (dTst (dCall dAll (aCons (dOfL (lLc (iSq (dCallF 1 S__law_odd_values (aCons (dCall dLen (aCons (dVar 3) (aNil))) (aNil)))) (gNm 7) (dYes) (dBin dIs (dCallF 2 S_is_group_paper (aCons (dVar 3) (aCons (dVar 7) (aNil)))) (dC (.bool false))) [7])) (aNil))))) (sRet (dC (.bool false))) (sNx)))))) (sSeq (sSet 5 (xIm (dTup (aCons (dTup (aCons (dC (.int 0)) (aCons (dC (.int 1)) (aCons (dC (.int 2)) (aNil))))) (aCons (dTup (aCons (dC (.int 1)) (aCons (dC (.int 0)) (aCons (dC (.int 1)) (aNil))))) (aCons (dTup (aCons (dC (.int 2)) (aCons (dC (.int 2)) (aCons (dC (.int 0)) (aNil))))) (aNil))))))) (sSeq (sSet 6 (xIm (dOfL (lLc (iR1 (dC (.int 3))) (gNm 8) (dYes) (dCallF 2 S_is_group_paper (aCons (dVar 5) (aCons (dTup (aCons (dC (.str "three")) (aCons (dVar 8) (aCons (dC (.int 2)) (aCons (dC (.int 1)) (aNil)))))) (aNil)))) [8])))) (sRet (dAnd (dBin dEq (dVar 6) (dOfL (lLst (aCons (dC (.bool false)) (aCons (dC (.bool true)) (aCons (dC (.bool true)) (aNil))))))) (dCallF 2 S_is_group_paper (aCons (dTup (aCons (dTup (aCons (dC (.int 0)) (aCons (dC (.int 1)) (aNil)))) (aCons (dTup (aCons (dC (.int 1)) (aCons (dC (.int 1)) (aNil)))) (aNil)))) (aCons (dTup (aCons (dC (.str "back")) (aCons (dC (.int 1)) (aNil)))) (aNil))))))))
theorem j_law (B : Bl mg) (O__law_dice : Ok P w K mg base "_law_dice" P__law_dice 1 (spL K 2 S__law_dice)) (O__law_near_group : Ok P w K mg base "_law_near_group" P__law_near_group 4 (spM K 2 S__law_near_group)) (O__law_group_rows : Ok P w K mg base "_law_group_rows" P__law_group_rows 4 (spM K 2 S__law_group_rows)) (O__law_papers : Ok P w K mg base "_law_papers" P__law_papers 2 (spM K 2 S__law_papers)) (O__law_is_so : Ok P w K mg base "_law_is_so" P__law_is_so 2 (spD K 2 S__law_is_so)) (O_is_group_paper : Ok P w K mg base "is_group_paper" P_is_group_paper 5 (spD K 2 S_is_group_paper)) (O__law_odd_values : Ok P w K mg base "_law_odd_values" P__law_odd_values 1 (spD K 1 S__law_odd_values)) : BodyCx P w K mg base "law" st_law N_law 5 fun X => JSs X (defBody st_law) g_law := fun f cdv A outer s H E hr => js_cons (js_for (vs := [1]) rfl (ji_r1 B.range (je_callB (calld_max2 rfl) B.max (by decide +kernel) (ja_cons (je_int) (ja_cons (je_callB (calld_min2 rfl) B.min (by decide +kernel) (ja_cons (je_int) (ja_cons (je_callB calld_len B.len (by decide +kernel) (ja_cons (je_v 0) (ja_nil))) (ja_nil)))) (ja_nil))))) (jg_n 1 sc_law.nd) (js_cons (js_set (i := 2) ((jl_fn O__law_dice (hr.mono (by decide)) (ja_cons (je_v 0) (ja_cons (je_v 1) (ja_nil)))).jx) sc_law.nd rfl (by first | exact Or.inl rfl | exact Or.inr rfl)) (js_cons (js_set (i := 3) ((je_fnM O__law_near_group (hr.mono (by decide)) (i := 2) rfl (by first | exact Or.inl rfl | exact Or.inr (Or.inl rfl) | exact Or.inr (Or.inr rfl)) (ja_cons (je_fnM O__law_group_rows (hr.mono (by decide)) (i := 2) rfl (by first | exact Or.inl rfl | exact Or.inr (Or.inl rfl) | exact Or.inr (Or.inr rfl)) (ja_cons (je_int) (ja_nil))) (ja_nil))).jx) sc_law.nd rfl (by first | exact Or.inl rfl | exact Or.inr rfl)) (js_cons (js_for (vs := [4]) rfl (ji_sq (je_fnM O__law_papers (hr.mono (by decide)) (i := 2) rfl (by first | exact Or.inl rfl | exact Or.inr (Or.inl rfl) | exact Or.inr (Or.inr rfl)) (ja_cons (je_callB calld_len B.len (by decide +kernel) (ja_cons (je_v 3) (ja_nil))) (ja_nil)))) (jg_n 4 sc_law.nd) (js_one (js_if (jt_cmp (opd_ne hr.units) (je_callB calld_reprB B.repr (by decide +kernel) (ja_cons (je_fn O_is_group_paper (hr.mono (by decide)) (ja_cons (je_v 3) (ja_cons (je_v 4) (ja_nil)))) (ja_nil))) (je_callB calld_reprB B.repr (by decide +kernel) (ja_cons (je_fn O__law_is_so (hr.mono (by decide)) (ja_cons (je_v 3) (ja_cons (je_v 4) (ja_nil)))) (ja_nil))) (nomark _)) (js_one (js_ret (je_bl))) (js_nil)))) (js_one (js_if (jt_not (jt_val (je_callB (calld_all rfl) B.all (by decide +kernel) (ja_cons ((jl_lc (own := [("_law_value", 7)]) rfl sc_law.nd (ji_sq (je_fn O__law_odd_values (hr.mono (by decide)) (ja_cons (je_callB calld_len B.len (by decide +kernel) (ja_cons (je_v 3) (ja_nil))) (ja_nil)))) (blkOk_by (by rfl)) (fun _ _ _ _ _ => jg_n 7 sc_law.nd) (fun _ _ _ _ _ => jts_nil) (fun _ _ _ _ _ => je_cmp opd_is (je_fn O_is_group_paper (hr.mono (by decide)) (ja_cons (je_v 3) (ja_cons (je_v 7) (ja_nil)))) (je_bl) (nomark _))).je) (ja_nil))))) (js_one (js_ret (je_bl))) (js_nil))))))) (js_cons (js_set (i := 5) ((je_tup (ja_cons (je_tup (ja_cons (je_int) (ja_cons (je_int) (ja_cons (je_int) (ja_nil))))) (ja_cons (je_tup (ja_cons (je_int) (ja_cons (je_int) (ja_cons (je_int) (ja_nil))))) (ja_cons (je_tup (ja_cons (je_int) (ja_cons (je_int) (ja_cons (je_int) (ja_nil))))) (ja_nil))))).jx) sc_law.nd rfl (by first | exact Or.inl rfl | exact Or.inr rfl)) (js_cons (js_lcF (own := [("_law_a", 8)]) rfl sc_law.nd (i := 6) rfl rfl (sw_true rfl rfl rfl (by decide +kernel)) (ji_r1 B.range (je_int)) (blkOk_by (by rfl)) (fun _ _ _ _ _ => jg_n 8 sc_law.nd) (fun _ _ _ _ _ => jts_nil) (fun _ _ _ _ _ => je_fn O_is_group_paper (hr.mono (by decide)) (ja_cons (je_v 5) (ja_cons (je_tup (ja_cons (je_str) (ja_cons (je_v 8) (ja_cons (je_int) (ja_cons (je_int) (ja_nil)))))) (ja_nil))))) (js_one (js_ret (je_and (je_cmp (opd_eq hr.units) (je_v 6) ((jl_lst (ja_cons (je_bl) (ja_cons (je_bl) (ja_cons (je_bl) (ja_nil))))).je) (nomark _)) (je_one (je_fn O_is_group_paper (hr.mono (by decide)) (ja_cons (je_tup (ja_cons (je_tup (ja_cons (je_int) (ja_cons (je_int) (ja_nil)))) (ja_cons (je_tup (ja_cons (je_int) (ja_cons (je_int) (ja_nil)))) (ja_nil)))) (ja_cons (je_tup (ja_cons (je_str) (ja_cons (je_int) (ja_nil)))) (ja_nil))))))))))
end
end Dn
set_option Elab.async false
set_option linter.all false
set_option maxRecDepth 100000
set_option autoImplicit false
set_option maxHeartbeats 4000000
namespace Dn
open PySem L2 Evl PySem.Spec PyProof.Rows
theorem tyN_dl (kvs : List (D × D)) : tyN (.dict kvs) = "dict" ∨ tyN (.dict kvs) = "list" := by
  unfold tyN
  split <;> first | exact .inl rfl | exact .inr rfl | (rename_i h; cases h; done)
theorem kit_int (d : D) : kitB (tyN d) "int" = some (match d with | .int _ => true | .bool _ => true | _ => false) := by
  cases d with
  | dict kvs => rcases tyN_dl kvs with e | e <;> (rw [e]; show _ = some false; decide +kernel)
  | _ => simp only [tyN]; decide +kernel
theorem kit_bool (d : D) : kitB (tyN d) "bool" = some (match d with | .bool _ => true | _ => false) := by
  cases d with
  | dict kvs => rcases tyN_dl kvs with e | e <;> (rw [e]; show _ = some false; decide +kernel)
  | _ => simp only [tyN]; decide +kernel
theorem kit_tuple (d : D) : kitB (tyN d) "tuple" = some (match d with | .tuple _ => true | _ => false) := by
  cases d with
  | dict kvs => rcases tyN_dl kvs with e | e <;> (rw [e]; show _ = some false; decide +kernel)
  | _ => simp only [tyN]; decide +kernel
theorem kit_str (d : D) : kitB (tyN d) "str" = some (match d with | .str _ => true | _ => false) := by
  cases d with
  | dict kvs => rcases tyN_dl kvs with e | e <;> (rw [e]; show _ = some false; decide +kernel)
  | _ => simp only [tyN]; decide +kernel
theorem tst_bool {b : Bool} {Q : Bool → Env → Prop} {ρ : Env} (h : Q b ρ) : (match (PyData.bool b) with | .bool b => Q b ρ | _ => False) := h
/-- a truth value that rules what comes: both ways -/
theorem bool_ways {b : Bool} {P1 P2 : Prop} (h1 : b = true → P1) (h2 : b = false → P2) : (match PyData.bool b with | .bool true => P1 | .bool false => P2 | _ => False) := by
  cases b
  · exact h2 rfl
  · exact h1 rfl
theorem ite_ways {b : Bool} {P1 P2 : Prop} (h1 : b = true → P1) (h2 : b = false → P2) : (if b = true then P1 else P2) := by
  cases b
  · exact h2 rfl
  · exact h1 rfl
/-- the readings, written out -/
local macro_rules | `(tactic| walk_at "dd") => `(tactic| skip)
end Dn
set_option Elab.async false
set_option linter.all false
set_option maxRecDepth 100000
set_option autoImplicit false
set_option maxHeartbeats 4000000
namespace Dn
open PySem L2 Evl PySem.Spec PyProof.Rows
local macro_rules | `(tactic| walk_at "dd") => `(tactic| simp only [sSeq, sIf, sSet, sRet, sRetN, sNx, sEx, sAsg, sPar, dTOr, dTAnd, dTNot, dTst, dIsi, dVar, dC, dBin, dChain, dNeg, dI2, dAnd, dOr, dNot, dIfE, dCall, dCallF, aCons, aNil, dTup, lLst, dOfL, xIm, xOw, gNm, gTp, gsCons, gsNil, dYes, envD, dLen, seqD, dIs, dIsNot, isN, dNe, dEq, dTupOf, dSl, oNone, oSome, iSq, iEn, iR1, iR2, sFor, lLc, sNever,
  kit_int, kit_bool, kit_tuple, kit_str, List.map_cons, List.map_nil, List.cons_append, List.nil_append, List.replicate, List.set_cons_zero, List.set_cons_succ, List.getElem?_cons_zero, List.getElem?_cons_succ, List.length_cons, List.length_nil, Nat.reduceAdd, Nat.reduceSub, Bool.not_true, Bool.not_false, Bool.false_eq_true, if_true, if_false, true_and, reduceCtorEq, Bool.true_eq_false])
section
variable {P : Program} {w : World} {K : PySem.W.Frag} {mg : Str → Option Value} {base : Heap}
theorem ok_is_integer (F : Is K mg "is_integer" st_is_integer) (B : Bl mg) {t : Tok} (c : mg "TOO_LONG" = some (.int 1000000000000000000000000000000000000000000000000000000000000 t)) : Ok P w K mg base "is_integer" P_is_integer 1 (spD K 1 S_is_integer) := by
  refine ok_D F sc_is_integer bs_is_integer (j_is_integer B c) fun ds Q _ h => ?_
  obtain ⟨d, rfl, h⟩ := h
  unfold g_is_integer
  walk_at "dd"
  cases d with
  | int i =>
    simp only [isI] at h
    walk_at "dd"
    refine bool_ways (fun e => ?_) (fun e => ?_)
    · rw [e] at h; exact h
    · rw [e] at h; exact h
  | _ => first | (walk_at "dd"; exact h) | exact h
theorem ok_is_row (F : Is K mg "is_row" st_is_row) (B : Bl mg) : Ok P w K mg base "is_row" P_is_row 1 (spD K 3 S_is_row) := by
  refine ok_D F sc_is_row bs_is_row (j_is_row B) fun ds Q _ h => ?_
  obtain ⟨d, m, n, rfl, hl, hn, h⟩ := h
  unfold g_is_row
  walk_at "dd"
  cases d with
  | tuple xs =>
    simp only [isRow] at h
    walk_at "dd"
    refine ⟨rfl, rfl, ?_⟩
    simp only [PyData.eqv]
    refine ite_ways (fun e => ?_) (fun e => ?_)
    · rw [show decide ((xs.length : Int) = m) = false from by simpa using e] at h; exact h
    · rw [show decide ((xs.length : Int) = m) = true from by simpa using e] at h
      refine ⟨_, rfl, ?_⟩
      refine wpFor_find (fun d => if isTh n d = true then none else some (.bool false)) (fun ρ => ∃ x, ρ = [some (.im (.tuple xs)), some (.im (.int m)), some (.im (.int n)), x]) ⟨_, rfl⟩ (fun d _ ρ K B hI hq hk => ?_) (fun v hv => ?_) (fun hv ρ hI => ?_)
      · obtain ⟨x, rfl⟩ := hI
        walk_at "dd"
        cases d with
        | int i =>
          walk_at "dd"
          have te : isTh n (.int i) = true ↔ 0 ≤ i ∧ i < n := by
            simp only [isTh, Bool.and_eq_true, decide_eq_true_eq]
            omega
          refine bool_ways (fun e1 => ?_) (fun e1 => ?_)
          · refine ite_ways (fun e2 => ?_) (fun e2 => ?_)
            · exact hq _ (if_neg (by rw [te]; simp at e1 e2; omega))
            · exact hk (if_pos (by rw [te]; simp at e1 e2; omega)) _ ⟨_, rfl⟩
          · exact hq _ (if_neg (by rw [te]; simp at e1; omega))
        | _ => exact hq _ rfl
      · have e2 : xs.all (isTh n) = false := by
          obtain ⟨d, hd, h2⟩ := List.exists_of_findSome?_eq_some hv
          rw [Bool.eq_false_iff]
          intro z
          have := List.all_eq_true.mp z d hd
          simp [this] at h2
        have e3 : v = .bool false := by
          obtain ⟨d, hd, h2⟩ := List.exists_of_findSome?_eq_some hv
          split at h2
          · cases h2
          · cases h2; rfl
        subst e3
        simpa [e2] using h
      · have e2 : xs.all (isTh n) = true := by
          rw [List.all_eq_true]
          intro d hd
          have := List.findSome?_eq_none_iff.mp hv d hd
          simpa using this
        obtain ⟨x, rfl⟩ := hI
        walk_at "dd"
        simpa [e2] using h
  | _ => exact h
theorem isTh_in {n x : Int} (h0 : 0 ≤ x) (h1 : x < n) (hn : n ≤ 24) : isTh n (.int x) = true := by
  simp only [isTh, Bool.and_eq_true, decide_eq_true_eq]
  omega
theorem isRow_in {rs : List (List Int)} (h : Rw rs) {r : List Int} (hr : r ∈ rs) : isRow rs.length rs.length (tI r) = true := by
  unfold isRow tI
  obtain ⟨h1, h2⟩ := h.row r hr
  simp only [Bool.and_eq_true, decide_eq_true_eq, List.length_map, h1, List.all_map, List.all_eq_true, true_and]
  intro x hx
  exact isTh_in (h2 x hx).1 (h2 x hx).2 (by have := h.most; omega)
theorem ok_is_square (F : Is K mg "is_square" st_is_square) (B : Bl mg) (O1 : Ok P w K mg base "is_row" P_is_row 1 (spD K 3 S_is_row)) : Ok P w K mg base "is_square" P_is_square 2 (spD K 3 S_is_square) := by
  refine ok_D F sc_is_square bs_is_square (j_is_square B O1) fun ds Q _ h => ?_
  obtain ⟨rs, rfl, hr, h⟩ := h
  have h1 := hr.pos
  have h2 := hr.most
  unfold g_is_square tR
  walk_at "dd"
  rw [show decide ((1 : Int) ≤ ((rs.map tI).length : Int)) = true from by simp; omega]
  walk_at "dd"
  rw [show decide (((rs.map tI).length : Int) ≤ 24) = true from by simp; omega]
  walk_at "dd"
  refine ⟨_, rfl, wpLc_map (fun _ => .bool true) (by simp; omega) rfl (fun d hd K hK => ?_) (fun _ _ _ => rfl) ?_⟩
  · walk_at "dd"
    obtain ⟨r, hr1, rfl⟩ := List.mem_map.mp hd
    refine ⟨_, _, _, rfl, fun xs e => ?_, by first | omega | (simp; omega), ?_⟩
    · cases e; have := (hr.row r hr1).1; simp; omega
    · rw [show isRow ((rs.map tI).length : Int) ((rs.map tI).length : Int) (tI r) = true from by simpa using isRow_in hr hr1]
      exact hK _ rfl
  · refine ⟨(rs.map tI).map fun _ => true, by simp, ?_⟩
    rw [show ((rs.map tI).map fun _ => true).all id = true from by simp]
    exact h
end
end Dn
set_option Elab.async false
set_option linter.all false
set_option maxRecDepth 100000
set_option autoImplicit false
set_option maxHeartbeats 4000000
namespace Dn
open PySem L2 Evl PySem.Spec PyProof.Rows
local macro_rules | `(tactic| walk_at "dd") => `(tactic| simp only [sSeq, sIf, sSet, sRet, sRetN, sNx, sEx, sAsg, sPar, dTOr, dTAnd, dTNot, dTst, dIsi, dVar, dC, dBin, dChain, dNeg, dI2, dAnd, dOr, dNot, dIfE, dCall, dCallF, aCons, aNil, dTup, lLst, dOfL, xIm, xOw, gNm, gTp, gsCons, gsNil, dYes, envD, dLen, seqD, dIs, dIsNot, isN, dNe, dEq, dTupOf, dSl, oNone, oSome, iSq, iEn, iR1, iR2, sFor, lLc, sNever, dTRg, rg1, rg2, lRg, wipeD,
  kit_int, kit_bool, kit_tuple, kit_str, List.map_cons, List.map_nil, List.cons_append, List.nil_append, List.replicate, List.set_cons_zero, List.set_cons_succ, List.getElem?_cons_zero, List.getElem?_cons_succ, List.length_cons, List.length_nil, Nat.reduceAdd, Nat.reduceSub, Bool.not_true, Bool.not_false, Bool.false_eq_true, if_true, if_false, true_and, reduceCtorEq, Bool.true_eq_false])
section
variable {P : Program} {w : World} {K : PySem.W.Frag} {mg : Str → Option Value} {base : Heap}
theorem atI_zero {α : Type} {x : α} {r : List α} : atI (x :: r) 0 = some x := by
  rw [atI_in (d := x) (by omega) (by simp only [List.length_cons]; omega)]; rfl
theorem okV_mem {d : D} {xs : List D} (h : okV d) (e : d = .tuple xs) {x : D} (hx : x ∈ xs) : okS x := (h xs e).2 x hx
theorem ok_is_same0 (F : Is K mg "is_same" st_is_same) (B : Bl mg) (O1 : Ok P w K mg base "is_integer" P_is_integer 1 (spD K 1 S_is_integer)) : Ok P w K mg base "is_same" P_is_same 2 (spD K 2 S_is_same0) := by
  refine ok_D F sc_is_same bs_is_same (j_is_same0 B O1) fun ds Q _ h => ?_
  obtain ⟨d, s, rfl, hd, hs, h⟩ := h
  unfold g_is_same0
  walk_at "dd"
  cases d with
  | str t =>
    walk_at "dd"
    exact ⟨hd t rfl, hs, by simpa only [PyData.eqv, isStr] using h⟩
  | _ => first | exact h | (walk_at "dd"; exact h)
theorem ok_is_same (F : Is K mg "is_same" st_is_same) (B : Bl mg) (O1 : Ok P w K mg base "is_integer" P_is_integer 1 (spD K 1 S_is_integer)) (O2 : Ok P w K mg base "is_same" P_is_same 2 (spD K 2 S_is_same0)) : Ok P w K mg base "is_same" P_is_same 3 (spD K 2 S_is_same) := by
  refine ok_D F sc_is_same bs_is_same (j_is_same B O2 O1) fun ds Q _ h => ?_
  rcases h with ⟨d, s, rfl, hd, hs, h⟩ | ⟨d, s, rfl, hd, hs, h⟩
  · unfold g_is_same
    walk_at "dd"
    cases d with
    | str t =>
      walk_at "dd"
      exact ⟨hd t rfl, hs, by simpa only [PyData.eqv, isStr] using h⟩
    | _ => first | exact h | (walk_at "dd"; exact h)
  · unfold g_is_same
    walk_at "dd"
    cases d with
    | tuple xs =>
      walk_at "dd"
      refine ⟨rfl, rfl, ?_⟩
      simp only [PyData.eqv]
      match xs, hd, h with
      | [], hd, h => walk_at "dd"; exact h
      | [x], hd, h =>
        walk_at "dd"
        refine ⟨_, rfl, ?_⟩
        unfold enD
        simp only [List.length_cons, List.length_nil, Nat.reduceAdd, List.range_one, List.zipWith_cons_cons, List.zipWith_nil_right, wpLc]
        walk_at "dd"
        refine ⟨by decide, .str s, rfl, x, s, rfl, (hd _ rfl).2 x (by simp), hs, [isStr s x], rfl, ?_⟩
        simpa [isTup1] using h
      | x :: y :: r, hd, h =>
        have e : ¬ ((r.length : Int) + 1 + 1 = 1) := by omega
        simp [e]
        simpa [isTup1] using h
    | _ => first | exact h | (walk_at "dd"; exact h)
theorem ok_is_told (F : Is K mg "is_told" st_is_told) (B : Bl mg) (O1 : Ok P w K mg base "is_same" P_is_same 3 (spD K 2 S_is_same)) (O2 : Ok P w K mg base "is_row" P_is_row 1 (spD K 3 S_is_row)) : Ok P w K mg base "is_told" P_is_told 4 (spD K 4 S_is_told) := by
  refine ok_D F sc_is_told bs_is_told (j_is_told B O1 O2) fun ds Q _ h => ?_
  obtain ⟨d, s, m, n, rfl, ⟨hm, hn⟩, hd, hs, h⟩ := h
  unfold g_is_told
  walk_at "dd"
  cases d with
  | tuple xs =>
    walk_at "dd"
    refine ⟨rfl, rfl, ?_⟩
    simp only [PyData.eqv]
    match xs, hd, h with
    | [], hd, h =>
      refine ite_ways (fun e => h) (fun e => ?_)
      simp at e
      omega
    | x :: r, hd, h =>
      simp only [isTold] at h
      refine ite_ways (fun e => ?_) (fun e => ?_)
      · have e2 : ¬ ((r.length : Int) = m) := by
          intro z; simp at e; omega
        rw [show decide ((r.length : Int) = m) = false from by simpa using e2] at h
        exact h
      · have e2 : (r.length : Int) = m := by simp at e; omega
        rw [show decide ((r.length : Int) = m) = true from by simpa using e2] at h
        refine ⟨x, atI_zero, .inl ⟨x, s, rfl, (hd _ rfl).2 x (by simp), hs, ?_⟩⟩
        refine bool_ways (fun e3 => ?_) (fun e3 => ?_)
        · rw [e3] at h
          have cut : cutD (x :: r) (some 1) none = r := by
            unfold cutD HT.sIx
            have : min (Int.toNat 1) (r.length + 1) = 1 := by omega
            simp [this]
          rw [cut]
          refine ⟨_, m, n, rfl, fun xs e => ?_, hn, ?_⟩
          · cases e; have := (hd _ rfl).1; simp at this; omega
          · simpa using h
        · rw [e3] at h; exact h
  | _ => first | exact h | (walk_at "dd"; exact h)
theorem ok_check_rows (F : Is K mg "_check_rows" st__check_rows) {t : Tok} (c : mg "MAX_GROUP" = some (.int 24 t)) (O1 : Ok P w K mg base "is_square" P_is_square 2 (spD K 3 S_is_square)) : Ok P w K mg base "_check_rows" P__check_rows 3 (spD K 1 S__check_rows) := by
  refine ok_D F sc__check_rows bs__check_rows (j__check_rows c O1) fun ds Q _ h => ?_
  obtain ⟨rs, rfl, hr, h⟩ := h
  unfold g__check_rows
  walk_at "dd"
  refine ⟨rs, rfl, hr, ?_⟩
  walk_at "dd"
  exact h
end
end Dn
set_option Elab.async false
set_option linter.all false
set_option maxRecDepth 100000
set_option autoImplicit false
set_option maxHeartbeats 4000000
namespace Dn
open PySem L2 Evl PySem.Spec PyProof.Rows
theorem map_split {α β : Type} {f : α → β} {l : List α} {done rest : List β} {d : β} (e : l.map f = done ++ d :: rest) : ∃ l1 x l2, l = l1 ++ x :: l2 ∧ done = l1.map f ∧ d = f x ∧ rest = l2.map f := by
  obtain ⟨l1, l2, h1, h2, h3⟩ := List.map_eq_append_iff.mp e
  cases l2 with
  | nil => simp at h3
  | cons x l2 =>
    simp at h3
    exact ⟨l1, x, l2, h1, h2.symm, h3.1.symm, h3.2.symm⟩
/-- each item by itself, over a list that is made of another one -/
theorem wpLc_mapL {α : Type} {g : DG} {tt : DT} {te : DE} {vs : List Nat} {Q : List D → Env → Prop} (l : List α) (f h : α → D) {ρ0 : Env} (hl : l.length < 16777216) (hw : wipeD ρ0 vs = ρ0)
    (hs : ∀ x, x ∈ l → ∀ (K : D → Env → Prop), (∀ ρ3, wipeD ρ3 vs = ρ0 → K (h x) ρ3) → g (f x) ρ0 fun ρ1 => tt ρ1 fun b ρ2 => if b = true then te ρ2 fun y ρ3 => K y ρ3 else False)
    (hf : ∀ ρ1, tt ρ1 = fun K => K true ρ1) (he : Q (l.map h) ρ0) : wpLc g tt te vs Q (l.map f) [] ρ0 := by
  refine wpLc_cps (fun done acc ρ => ∃ l1 l2, l = l1 ++ l2 ∧ done = l1.map f ∧ acc = l1.map h ∧ ρ = ρ0) ⟨[], l, rfl, rfl, rfl, rfl⟩ (fun done d rest acc ρ K e p k => ?_) (fun acc ρ p => ?_)
  · obtain ⟨l1, x, l2, rfl, rfl, rfl, rfl⟩ := map_split e
    obtain ⟨m1, m2, e1, e2, rfl, rfl⟩ := p
    have e3 : m1 = l1 := by
      have h1 := congrArg List.length e2
      simp at h1
      have h2 := congrArg (List.take m1.length) e1
      rw [List.take_left, h1.symm, List.take_left] at h2
      exact h2.symm
    subst e3
    refine ⟨by simp at hl ⊢; omega, ?_⟩
    rw [hw]
    have z := hs x (by simp) (fun y ρ3 => K (m1.map h ++ [y]) (wipeD ρ3 vs)) fun ρ3 w => by rw [w]; exact k _ _ ⟨m1 ++ [x], l2, by simp, by simp, by simp, rfl⟩
    have e2 : (fun ρ1 => tt ρ1 fun b ρ2 => if b = true then te ρ2 fun y ρ3 => K (m1.map h ++ [y]) (wipeD ρ3 vs) else False) = fun ρ1 => tt ρ1 fun b ρ2 => if b = true then te ρ2 fun y ρ3 => K (m1.map h ++ [y]) (wipeD ρ3 vs) else K (m1.map h) (wipeD ρ2 vs) := by
      funext ρ1
      rw [hf ρ1]
      simp
    rw [← e2]
    exact z
  · obtain ⟨m1, m2, rfl, e2, rfl, rfl⟩ := p
    have : m2 = [] := by
      have h1 := congrArg List.length e2
      simp at h1
      exact h1
    subst this
    simpa using he
theorem wpLc_filL {α : Type} {g : DG} {tt : DT} {te : DE} {vs : List Nat} {Q : List D → Env → Prop} (l : List α) (f h : α → D) (p : α → Bool) {ρ0 : Env} (hl : l.length < 16777216) (hw : wipeD ρ0 vs = ρ0)
    (hs : ∀ x, x ∈ l → ∀ (K : D → Env → Prop) (N : Env → Prop), (p x = true → ∀ ρ3, wipeD ρ3 vs = ρ0 → K (h x) ρ3) → (p x = false → ∀ ρ3, wipeD ρ3 vs = ρ0 → N ρ3) → g (f x) ρ0 fun ρ1 => tt ρ1 fun b ρ2 => if b = true then te ρ2 fun y ρ3 => K y ρ3 else N ρ2)
    (he : Q ((l.filter p).map h) ρ0) : wpLc g tt te vs Q (l.map f) [] ρ0 := by
  refine wpLc_cps (fun done acc ρ => ∃ l1 l2, l = l1 ++ l2 ∧ done = l1.map f ∧ acc = (l1.filter p).map h ∧ ρ = ρ0) ⟨[], l, rfl, rfl, rfl, rfl⟩ (fun done d rest acc ρ K e q k => ?_) (fun acc ρ q => ?_)
  · obtain ⟨l1, x, l2, rfl, rfl, rfl, rfl⟩ := map_split e
    obtain ⟨m1, m2, e1, e2, rfl, rfl⟩ := q
    have e3 : m1 = l1 := by
      have h1 := congrArg List.length e2
      simp at h1
      have h2 := congrArg (List.take m1.length) e1
      rw [List.take_left, h1.symm, List.take_left] at h2
      exact h2.symm
    subst e3
    refine ⟨?_, ?_⟩
    · have h1 := List.length_filter_le p m1
      simp at hl ⊢
      omega
    · rw [hw]
      refine hs x (by simp) (fun y ρ3 => K ((m1.filter p).map h ++ [y]) (wipeD ρ3 vs)) (fun ρ2 => K ((m1.filter p).map h) (wipeD ρ2 vs)) (fun hp ρ3 w => ?_) (fun hp ρ3 w => ?_)
      · rw [w]; exact k _ _ ⟨m1 ++ [x], l2, by simp, by simp, by rw [List.filter_append, List.filter_cons_of_pos hp]; simp, rfl⟩
      · rw [w]; exact k _ _ ⟨m1 ++ [x], l2, by simp, by simp, by rw [List.filter_append, List.filter_cons_of_neg (by simp [hp])]; simp, rfl⟩
  · obtain ⟨m1, m2, rfl, e2, rfl, rfl⟩ := q
    have : m2 = [] := by
      have h1 := congrArg List.length e2
      simp at h1
      exact h1
    subst this
    simpa using he
/-- a search over a list that is made of another one -/
theorem wpFor_fs {α : Type} {g : DG} {body : DS} {N bk ct : Env → Prop} {Q : D → Prop} (l : List α) (it : α → D) (f : α → Option D) {ρ0 : Env} (I : Env → Prop) (h0 : I ρ0)
    (hs : ∀ x, x ∈ l → ∀ (ρ : Env) (K B : Env → Prop), I ρ → (∀ v, f x = some v → Q v) → (f x = none → ∀ ρ', I ρ' → K ρ') → g (it x) ρ fun ρ1 => body { nx := K, ct := K, bk := B, rt := fun d _ => Q d } ρ1)
    (hf : ∀ v, l.findSome? f = some v → Q v) (hn : l.findSome? f = none → ∀ ρ, I ρ → N ρ) : wpFor g body { nx := N, rt := fun d _ => Q d, bk := bk, ct := ct } (l.map it) ρ0 := by
  induction l generalizing ρ0 with
  | nil => exact hn rfl ρ0 h0
  | cons d ds ih =>
    refine hs d List.mem_cons_self ρ0 _ _ h0 (fun v e => hf v ?_) (fun e ρ' i => ih i (fun d hd => hs d (List.mem_cons_of_mem _ hd)) (fun v h => hf v ?_) fun h => hn ?_)
    · rw [List.findSome?_cons, e]
    · rw [List.findSome?_cons, e]; exact h
    · rw [List.findSome?_cons, e]; exact h
theorem fs_find {α β : Type} (p : α → Bool) (r : α → β) : ∀ l : List α, l.findSome? (fun x => if p x = true then some (r x) else none) = (l.find? p).map r
  | [] => rfl
  | x :: l => by
    rw [List.findSome?_cons, List.find?_cons]
    cases h : p x
    · simp [fs_find p r l]
    · simp
theorem dLen_tR {rs : List (List Int)} {Q : D → Prop} : dLen [tR rs] Q = Q (.int rs.length) := by show Q _ = _; simp
theorem dLen_tI {rs : List Int} {Q : D → Prop} : dLen [tI rs] Q = Q (.int rs.length) := by show Q _ = _; simp
theorem dLen_tup {xs : List D} {Q : D → Prop} : dLen [.tuple xs] Q = Q (.int xs.length) := rfl
theorem dLen_lst {xs : List D} {Q : D → Prop} : dLen [.list xs] Q = Q (.int xs.length) := rfl
theorem seq_tup {xs : List D} : seqD (.tuple xs) = some xs := rfl
theorem seq_lst {xs : List D} : seqD (.list xs) = some xs := rfl
theorem tI_def (xs : List Int) : (PyData.tuple (xs.map PyData.int)) = tI xs := rfl
/-- enumerate of a made list -/
theorem enD_map {α : Type} (l : List α) (f : α → D) (d : α) : enD (l.map f) = (rgI l.length).map fun k => .tuple [.int k, f (l.getD k.toNat d)] := by
  apply List.ext_getElem?
  intro i
  by_cases h : i < l.length
  · unfold enD
    rw [List.getElem?_zipWith, List.getElem?_map, List.getElem?_map, rgI_get h, List.length_map, List.getElem?_range h]
    simp [h, List.getD]
  · rw [List.getElem?_eq_none_iff.mpr (by rw [enD_len]; simp; omega), List.getElem?_eq_none_iff.mpr (by simp [rgI_len]; omega)]
end Dn
set_option Elab.async false
set_option linter.all false
set_option maxRecDepth 100000
set_option autoImplicit false
set_option maxHeartbeats 4000000
namespace Dn
open PySem L2 Evl PySem.Spec PyProof.Rows
local macro_rules | `(tactic| walk_at "dd") => `(tactic| simp only [sSeq, sIf, sSet, sRet, sRetN, sNx, sEx, sAsg, sPar, dTOr, dTAnd, dTNot, dTst, dIsi, dVar, dC, dBin, dChain, dNeg, dI2, dAnd, dOr, dNot, dIfE, dCall, dCallF, aCons, aNil, dTup, lLst, dOfL, xIm, xOw, gNm, gTp, gsCons, gsNil, dYes, envD, dLen_tR, dLen_tI, dLen_tup, dLen_lst, seq_tR, seq_tI, seq_tup, seq_lst, dIs, dIsNot, dNe, dEq, dTupOf, dSl, oNone, oSome, iSq, iEn, iR1, iR2, sFor, lLc, sNever, dTRg, rg1, rg2, lRg, wipeD, optD,
  kit_int, kit_bool, kit_tuple, kit_str, List.map_cons, List.map_nil, List.cons_append, List.nil_append, List.replicate, List.set_cons_zero, List.set_cons_succ, List.getElem?_cons_zero, List.getElem?_cons_succ, List.length_cons, List.length_nil, List.length_map, Nat.reduceAdd, Nat.reduceSub, Bool.not_true, Bool.not_false, Bool.false_eq_true, if_true, if_false, true_and, reduceCtorEq, Bool.true_eq_false, rgD_rgI, Option.some.injEq, exists_eq_left', and_true])
section
variable {P : Program} {w : World} {K : PySem.W.Frag} {mg : Str → Option Value} {base : Heap}
theorem ok_unit_of (F : Is K mg "unit_of" st_unit_of) (B : Bl mg) : Ok P w K mg base "unit_of" P_unit_of 1 (spD K 1 S_unit_of) := by
  refine ok_D F sc_unit_of bs_unit_of (j_unit_of B) fun ds Q _ h => ?_
  obtain ⟨rs, rfl, hr, h⟩ := h
  have h1 := hr.pos
  have h2 := hr.most
  unfold g_unit_of
  walk_at "dd"
  refine ⟨⟨by omega, by omega, by omega, by omega⟩, ?_⟩
  simp only [tI_def]
  refine wpFor_fs (rgI rs.length) PyData.int (fun e => if isUnit rs e = true then some (.int e) else none) (fun ρ => ∃ x y, ρ = [some (.im (tR rs)), some (.im (tI (rgI rs.length))), x, y]) ⟨_, _, rfl⟩ (fun e he ρ K B hI hq hk => ?_) (fun v hv => ?_) (fun hn ρ hI => ?_)
  · obtain ⟨x, y, rfl⟩ := hI
    obtain ⟨e0, e1⟩ := mem_rgI.mp he
    walk_at "dd"
    refine ixR e0 e1 ?_
    refine ⟨shaped_tI _, shaped_tI _, ?_⟩
    rw [eqv_tI]
    refine ite_ways (fun z => ?_) (fun z => hk ?_ _ ⟨_, _, rfl⟩)
    · refine wpLc_mapL rs tI (fun r => .int (r.getD e.toNat 0)) (by omega) rfl (fun r hr' K' hK => ?_) (fun _ => rfl) ?_
      · walk_at "dd"
        exact ixI e0 (by rw [(hr.row r hr').1]; exact e1) (hK _ rfl)
      · walk_at "dd"
        rw [show (PyData.tuple (rs.map fun r => PyData.int (r.getD e.toNat 0))) = tI (rs.map fun r => r.getD e.toNat 0) from by unfold tI; simp]
        refine ⟨shaped_tI _, shaped_tI _, ?_⟩
        rw [eqv_tI]
        have iu : isUnit rs e = decide (rs.map (fun r => r.getD e.toNat 0) = rgI rs.length) := by unfold isUnit; rw [z]; simp
        refine ite_ways (fun z2 => hq _ ?_) (fun z2 => hk ?_ _ ⟨_, _, rfl⟩)
        · rw [iu, z2]; rfl
        · rw [iu, z2]; rfl
    · have iu : isUnit rs e = false := by unfold isUnit; rw [z]; rfl
      rw [iu]; rfl
  · rw [fs_find] at hv
    unfold unitOf at h
    cases hu : (rgI rs.length).find? (isUnit rs) with
    | none => rw [hu] at hv; cases hv
    | some u => rw [hu] at hv h; cases hv; exact h
  · rw [fs_find] at hn
    unfold unitOf at h
    cases hu : (rgI rs.length).find? (isUnit rs) with
    | none => rw [hu] at h; exact h
    | some u => rw [hu] at hn; cases hn
theorem ok_back_of (F : Is K mg "back_of" st_back_of) (B : Bl mg) : Ok P w K mg base "back_of" P_back_of 1 (spD K 3 S_back_of) := by
  refine ok_D F sc_back_of bs_back_of (j_back_of B) fun ds Q _ h => ?_
  obtain ⟨rs, u, t, rfl, hr, t0, t1, h⟩ := h
  unfold g_back_of
  walk_at "dd"
  refine ixR t0 t1 ?_
  walk_at "dd"
  rw [enD_map (rs.getD t.toNat []) PyData.int 0, hr.len t0 t1]
  refine wpFor_fs (rgI rs.length) (fun k => .tuple [.int k, .int (rc rs t k)]) (fun b => if (decide (rc rs t b = u) && decide (rc rs b t = u)) = true then some (.int b) else none) (fun ρ => ∃ x y, ρ = [some (.im (tR rs)), some (.im (.int u)), some (.im (.int t)), x, y]) ⟨_, _, rfl⟩ (fun b hb ρ K B hI hq hk => ?_) (fun v hv => ?_) (fun hn ρ hI => ?_)
  · obtain ⟨x, y, rfl⟩ := hI
    obtain ⟨b0, b1⟩ := mem_rgI.mp hb
    walk_at "dd"
    refine ⟨rfl, rfl, ?_⟩
    simp only [PyData.eqv]
    refine ite_ways (fun z => ?_) (fun z => hk ?_ _ ⟨_, _, rfl⟩)
    · refine ixRC hr b0 b1 t0 t1 ?_
      refine ⟨rfl, rfl, ?_⟩
      simp only [PyData.eqv]
      have z' : rc rs t b = u := by simpa using z
      refine ite_ways (fun z2 => hq _ ?_) (fun z2 => hk ?_ _ ⟨_, _, rfl⟩)
      · rw [if_pos (by simpa [z'] using z2)]
      · rw [if_neg (by simpa [z'] using z2)]
    · rw [if_neg (by intro q; simp at q z; exact z q.1)]
  · rw [fs_find] at hv
    unfold backOf at h
    cases hu : (rgI rs.length).find? (fun b => decide (rc rs t b = u) && decide (rc rs b t = u)) with
    | none => rw [hu] at hv; cases hv
    | some u => rw [hu] at hv h; cases hv; exact h
  · rw [fs_find] at hn
    unfold backOf at h
    cases hu : (rgI rs.length).find? (fun b => decide (rc rs t b = u) && decide (rc rs b t = u)) with
    | none => rw [hu] at h; exact h
    | some u => rw [hu] at hn; cases hn
theorem ok_broken_three (F : Is K mg "broken_three" st_broken_three) (B : Bl mg) : Ok P w K mg base "broken_three" P_broken_three 1 (spD K 1 S_broken_three) := by
  refine ok_D F sc_broken_three bs_broken_three (j_broken_three B) fun ds Q _ h => ?_
  obtain ⟨rs, rfl, hr, h⟩ := h
  unfold g_broken_three
  walk_at "dd"
  rw [enD_map rs tI []]
  refine wpFor_fs (rgI rs.length) (fun k => .tuple [.int k, tI (rs.getD k.toNat [])]) (fun a => (rgI rs.length).findSome? fun b => (rgI rs.length).findSome? fun c => if rc rs (rc rs a b) c ≠ rc rs a (rc rs b c) then some (.tuple [.int a, .int b, .int c]) else none) (fun ρ => ∃ x1 x2 x3 x4 x5 x6, ρ = [some (.im (tR rs)), x1, x2, x3, x4, x5, x6]) ⟨_, _, _, _, _, _, rfl⟩ (fun a ha ρ K B hI hq hk => ?_) (fun v hv => ?_) (fun hn ρ hI => ?_)
  · obtain ⟨x1, x2, x3, x4, x5, x6, rfl⟩ := hI
    obtain ⟨a0, a1⟩ := mem_rgI.mp ha
    walk_at "dd"
    rw [enD_map (rs.getD a.toNat []) PyData.int 0, hr.len a0 a1]
    refine wpFor_fs (rgI rs.length) (fun k => .tuple [.int k, .int (rc rs a k)]) (fun b => (rgI rs.length).findSome? fun c => if rc rs (rc rs a b) c ≠ rc rs a (rc rs b c) then some (.tuple [.int a, .int b, .int c]) else none) (fun ρ => ∃ x3 x4 x5 x6, ρ = [some (.im (tR rs)), some (.im (.int a)), some (.im (tI (rs.getD a.toNat []))), x3, x4, x5, x6]) ⟨_, _, _, _, rfl⟩ (fun b hb ρ K B hI hq hk => ?_) (fun v hv => hq v hv) (fun hn ρ hI => ?_)
    · obtain ⟨x3, x4, x5, x6, rfl⟩ := hI
      obtain ⟨b0, b1⟩ := mem_rgI.mp hb
      walk_at "dd"
      refine ixR b0 b1 ?_
      walk_at "dd"
      rw [enD_map (rs.getD b.toNat []) PyData.int 0, hr.len b0 b1]
      refine wpFor_fs (rgI rs.length) (fun k => .tuple [.int k, .int (rc rs b k)]) (fun c => if rc rs (rc rs a b) c ≠ rc rs a (rc rs b c) then some (.tuple [.int a, .int b, .int c]) else none) (fun ρ => ∃ x5 x6, ρ = [some (.im (tR rs)), some (.im (.int a)), some (.im (tI (rs.getD a.toNat []))), some (.im (.int b)), some (.im (.int (rc rs a b))), x5, x6]) ⟨_, _, rfl⟩ (fun c hc ρ K B hI hq hk => ?_) (fun v hv => hq v hv) (fun hn ρ hI => ?_)
      · obtain ⟨x5, x6, rfl⟩ := hI
        obtain ⟨c0, c1⟩ := mem_rgI.mp hc
        walk_at "dd"
        obtain ⟨p0, p1⟩ := hr.rc a0 a1 b0 b1
        obtain ⟨q0, q1⟩ := hr.rc b0 b1 c0 c1
        refine ixRC hr p0 p1 c0 c1 ?_
        refine ixI q0 (by rw [hr.len a0 a1]; exact q1) ?_
        refine ⟨rfl, rfl, ?_⟩
        simp only [PyData.eqv]
        refine ite_ways (fun z => ⟨by decide, hq _ (if_pos (by simpa [rc] using z))⟩) (fun z => hk (if_neg (by simpa [rc] using z)) _ ⟨_, _, rfl⟩)
      · obtain ⟨x5, x6, rfl⟩ := hI
        exact hk hn _ ⟨_, _, _, _, rfl⟩
    · obtain ⟨x3, x4, x5, x6, rfl⟩ := hI
      exact hk hn _ ⟨_, _, _, _, _, _, rfl⟩
  · unfold threeOf at h
    rw [hv] at h; exact h
  · unfold threeOf at h
    rw [hn] at h; exact h
theorem noBack_fs {rs : List (List Int)} {u : Int} : (rgI rs.length).findSome? (fun a => if (backOf rs u a).isNone = true then some (PyData.tuple [.str "back", .int a]) else none) = (noBack rs u).map fun a => .tuple [.str "back", .int a] := fs_find _ _ _
theorem optD_isN (o : Option Int) : isN (optD o) = o.isNone := by cases o <;> rfl
theorem ok_group_paper (F : Is K mg "group_paper" st_group_paper) (B : Bl mg) (O1 : Ok P w K mg base "_check_rows" P__check_rows 3 (spD K 1 S__check_rows)) (O2 : Ok P w K mg base "unit_of" P_unit_of 1 (spD K 1 S_unit_of)) (O3 : Ok P w K mg base "back_of" P_back_of 1 (spD K 3 S_back_of)) (O4 : Ok P w K mg base "broken_three" P_broken_three 1 (spD K 1 S_broken_three)) :
    Ok P w K mg base "group_paper" P_group_paper 4 (spD K 1 S_group_paper) := by
  refine ok_D F sc_group_paper bs_group_paper (j_group_paper B O1 O2 O3 O4) fun ds Q _ h => ?_
  obtain ⟨rs, rfl, hr, h⟩ := h
  have h1 := hr.pos
  have h2 := hr.most
  unfold g_group_paper
  walk_at "dd"
  refine ⟨rs, rfl, hr, ?_⟩
  refine ⟨rs, rfl, hr, ?_⟩
  dsimp only
  rw [optD_isN]
  unfold faultOf at h
  cases hu : unitOf rs with
  | none =>
    rw [hu] at h
    walk_at "dd"
    exact ⟨by decide, h⟩
  | some u =>
    rw [hu] at h
    dsimp only at h
    walk_at "dd"
    refine ⟨⟨by omega, by omega, by omega, by omega⟩, ?_⟩
    refine wpFor_fs (rgI rs.length) PyData.int (fun a => if (backOf rs u a).isNone = true then some (PyData.tuple [.str "back", .int a]) else none) (fun ρ => ∃ x y, ρ = [some (.im (tR rs)), some (.im (.int u)), x, y]) ⟨_, _, rfl⟩ (fun a ha ρ K B hI hq hk => ?_) (fun v hv => ?_) (fun hn ρ hI => ?_)
    · obtain ⟨x, y, rfl⟩ := hI
      obtain ⟨a0, a1⟩ := mem_rgI.mp ha
      walk_at "dd"
      refine ⟨rs, u, a, rfl, hr, a0, a1, ?_⟩
      dsimp only
      rw [optD_isN]
      refine ite_ways (fun z => ⟨by decide, hq _ (if_pos z)⟩) (fun z => hk (if_neg (by rw [z]; simp)) _ ⟨_, _, rfl⟩)
    · rw [noBack_fs] at hv
      cases hb : noBack rs u with
      | none => rw [hb] at hv; cases hv
      | some a => rw [hb] at hv h; cases hv; exact h
    · rw [noBack_fs] at hn
      obtain ⟨x, y, rfl⟩ := hI
      cases hb : noBack rs u with
      | some a => rw [hb] at hn; cases hn
      | none =>
        rw [hb] at h
        dsimp only at h
        walk_at "dd"
        refine ⟨rs, rfl, hr, ?_⟩
        cases ht : threeOf rs with
        | none =>
          rw [ht] at h
          exact ⟨by decide, h⟩
        | some t =>
          rw [ht] at h
          obtain ⟨a, b, c, rfl⟩ : ∃ a b c, t = .tuple [.int a, .int b, .int c] := by
            unfold threeOf at ht
            obtain ⟨a, _, ht⟩ := List.exists_of_findSome?_eq_some ht
            obtain ⟨b, _, ht⟩ := List.exists_of_findSome?_eq_some ht
            obtain ⟨c, _, ht⟩ := List.exists_of_findSome?_eq_some ht
            split at ht
            · cases ht; exact ⟨a, b, c, rfl⟩
            · cases ht
          exact ⟨by decide, by simp, h⟩
end
end Dn
set_option Elab.async false
set_option linter.all false
set_option maxRecDepth 100000
set_option autoImplicit false
set_option maxHeartbeats 4000000
namespace Dn
open PySem L2 Evl PySem.Spec PyProof.Rows
local macro_rules | `(tactic| walk_at "dd") => `(tactic| simp only [sSeq, sIf, sSet, sRet, sRetN, sNx, sEx, sAsg, sPar, dTOr, dTAnd, dTNot, dTst, dIsi, dVar, dC, dBin, dChain, dNeg, dI2, dAnd, dOr, dNot, dIfE, dCall, dCallF, aCons, aNil, dTup, lLst, dOfL, xIm, xOw, gNm, gTp, gsCons, gsNil, dYes, envD, dLen_tR, dLen_tI, dLen_tup, dLen_lst, seq_tR, seq_tI, seq_tup, seq_lst, dIs, dIsNot, dNe, dEq, dTupOf, dSl, oNone, oSome, iSq, iEn, iR1, iR2, sFor, lLc, sNever, dTRg, rg1, rg2, lRg, wipeD, optD,
  kit_int, kit_bool, kit_tuple, kit_str, List.map_cons, List.map_nil, List.cons_append, List.nil_append, List.replicate, List.set_cons_zero, List.set_cons_succ, List.getElem?_cons_zero, List.getElem?_cons_succ, List.length_cons, List.length_nil, List.length_map, Nat.reduceAdd, Nat.reduceSub, Bool.not_true, Bool.not_false, Bool.false_eq_true, if_true, if_false, true_and, reduceCtorEq, Bool.true_eq_false, rgD_rgI, Option.some.injEq, exists_eq_left', and_true])
section
variable {P : Program} {w : World} {K : PySem.W.Frag} {mg : Str → Option Value} {base : Heap}
theorem isTh_out {n : Int} {d : D} (h : isTh n d = true) : ∃ i, d = .int i ∧ 0 ≤ i ∧ i < n := by
  cases d <;> simp only [isTh, Bool.and_eq_true, decide_eq_true_eq, reduceCtorEq, Bool.false_eq_true] at h
  exact ⟨_, rfl, h.2.1, h.2.2⟩
theorem told_three {s : Str} {n : Int} {d : D} (h : isTold s 3 n d = true) : ∃ x a b c, d = .tuple [x, .int a, .int b, .int c] ∧ (0 ≤ a ∧ a < n) ∧ (0 ≤ b ∧ b < n) ∧ 0 ≤ c ∧ c < n := by
  cases d with
  | tuple xs =>
    match xs, h with
    | x :: r, h =>
      simp only [isTold, isRow, Bool.and_eq_true, decide_eq_true_eq] at h
      obtain ⟨h1, _, _, h2⟩ := h
      match r, h1, h2 with
      | [p, q, t], _, h2 =>
        simp only [List.all_cons, List.all_nil, Bool.and_eq_true] at h2
        obtain ⟨a, rfl, a0, a1⟩ := isTh_out h2.1
        obtain ⟨b, rfl, b0, b1⟩ := isTh_out h2.2.1
        obtain ⟨c, rfl, c0, c1⟩ := isTh_out h2.2.2.1
        exact ⟨x, a, b, c, rfl, ⟨a0, a1⟩, ⟨b0, b1⟩, c0, c1⟩
      | [], h1, _ => simp at h1
      | [_], h1, _ => simp at h1
      | [_, _], h1, _ => simp at h1
      | _ :: _ :: _ :: _ :: _, h1, _ => simp at h1; omega
    | [], h => simp [isTold] at h
  | _ => simp [isTold] at h
theorem told_back {s : Str} {n : Int} {d : D} (h : isTold s 1 n d = true) : ∃ x a, d = .tuple [x, .int a] ∧ 0 ≤ a ∧ a < n := by
  cases d with
  | tuple xs =>
    match xs, h with
    | x :: r, h =>
      simp only [isTold, isRow, Bool.and_eq_true, decide_eq_true_eq] at h
      obtain ⟨h1, _, _, h2⟩ := h
      match r, h1, h2 with
      | [p], _, h2 =>
        simp only [List.all_cons, List.all_nil, Bool.and_eq_true] at h2
        obtain ⟨a, rfl, a0, a1⟩ := isTh_out h2.1
        exact ⟨x, a, rfl, a0, a1⟩
      | [], h1, _ => simp at h1
      | _ :: _ :: _, h1, _ => simp at h1; omega
    | [], h => simp [isTold] at h
  | _ => simp [isTold] at h
theorem unit_in {rs : List (List Int)} {u : Int} (h : unitOf rs = some u) : 0 ≤ u ∧ u < rs.length := mem_rgI.mp (List.mem_of_find?_eq_some h)
theorem fault_grp (rs : List (List Int)) : SeqAt.shaped (faultOf rs) = true ∧ PyData.eqv (faultOf rs) (.tuple [.str "group"]) = isGrp rs := by
  unfold faultOf isGrp
  cases unitOf rs with
  | none =>
    show SeqAt.shaped (.tuple [.str "unit"]) = true ∧ PyData.eqv (.tuple [.str "unit"]) (.tuple [.str "group"]) = false
    exact ⟨by decide +kernel, by decide +kernel⟩
  | some u =>
    dsimp only
    cases noBack rs u with
    | some a => exact ⟨by simp [SeqAt.shaped, PyData.canLay0, PyData.canLayAll0, PyData.depth, PyData.depthAll]; decide +kernel, by simp [PyData.eqv, PyData.eqvAll]⟩
    | none =>
      dsimp only
      cases ht : threeOf rs with
      | none =>
        show SeqAt.shaped (.tuple [.str "group"]) = true ∧ PyData.eqv (.tuple [.str "group"]) (.tuple [.str "group"]) = true
        exact ⟨by decide +kernel, by decide +kernel⟩
      | some t =>
        obtain ⟨a, b, c, rfl⟩ : ∃ a b c, t = .tuple [.int a, .int b, .int c] := by
          unfold threeOf at ht
          obtain ⟨a, _, ht⟩ := List.exists_of_findSome?_eq_some ht
          obtain ⟨b, _, ht⟩ := List.exists_of_findSome?_eq_some ht
          obtain ⟨c, _, ht⟩ := List.exists_of_findSome?_eq_some ht
          split at ht
          · cases ht; exact ⟨a, b, c, rfl⟩
          · cases ht
        exact ⟨by simp [SeqAt.shaped, PyData.canLay0, PyData.canLayAll0, PyData.depth, PyData.depthAll]; decide +kernel, by simp [PyData.eqv, PyData.eqvAll]⟩
theorem ok_is_group_paper (F : Is K mg "is_group_paper" st_is_group_paper) (B : Bl mg) (O1 : Ok P w K mg base "_check_rows" P__check_rows 3 (spD K 1 S__check_rows)) (O2 : Ok P w K mg base "is_told" P_is_told 4 (spD K 4 S_is_told)) (O3 : Ok P w K mg base "unit_of" P_unit_of 1 (spD K 1 S_unit_of)) (O4 : Ok P w K mg base "back_of" P_back_of 1 (spD K 3 S_back_of))
    (O5 : Ok P w K mg base "is_same" P_is_same 3 (spD K 2 S_is_same)) (O6 : Ok P w K mg base "group_paper" P_group_paper 4 (spD K 1 S_group_paper)) : Ok P w K mg base "is_group_paper" P_is_group_paper 5 (spD K 2 S_is_group_paper) := by
  refine ok_D F sc_is_group_paper bs_is_group_paper (j_is_group_paper B O1 O2 O3 O4 O5 O6) fun ds Q _ h => ?_
  obtain ⟨rs, d, rfl, hr, hd, h⟩ := h
  unfold g_is_group_paper
  walk_at "dd"
  refine ⟨rs, rfl, hr, d, "three", 3, rs.length, rfl, ⟨by omega, by have := hr.most; omega⟩, hd, by decide +kernel, ?_⟩
  unfold isPaper at h
  refine ite_ways (fun z => ?_) (fun z => ?_)
  · rw [if_pos z] at h
    obtain ⟨x, a, b, c, rfl, ⟨a0, a1⟩, ⟨b0, b1⟩, c0, c1⟩ := told_three z
    walk_at "dd"
    obtain ⟨p0, p1⟩ := hr.rc a0 a1 b0 b1
    obtain ⟨q0, q1⟩ := hr.rc b0 b1 c0 c1
    refine ixRC hr a0 a1 b0 b1 (ixRC hr p0 p1 c0 c1 (ixR a0 a1 (ixRC hr b0 b1 c0 c1 (ixI q0 (by rw [hr.len a0 a1]; exact q1) ?_))))
    refine ⟨rfl, rfl, ?_⟩
    have e : (!PyData.eqv (PyData.int (rc rs (rc rs a b) c)) (PyData.int ((rs.getD a.toNat []).getD (rc rs b c).toNat 0))) = decide (rc rs (rc rs a b) c ≠ rc rs a (rc rs b c)) := by
      simp only [PyData.eqv]
      show (!(rc rs (rc rs a b) c == rc rs a (rc rs b c))) = _
      by_cases z : rc rs (rc rs a b) c = rc rs a (rc rs b c) <;> simp [z]
    rw [e]; exact h
  · rw [if_neg (by rw [z]; simp)] at h
    refine ⟨rs, rfl, hr, d, "back", 1, rs.length, rfl, ⟨by omega, by have := hr.most; omega⟩, hd, by decide +kernel, ?_⟩
    refine ite_ways (fun z2 => ?_) (fun z2 => ?_)
    · rw [if_pos z2] at h
      obtain ⟨x, a, rfl, a0, a1⟩ := told_back z2
      try dsimp only
      rw [optD_isN]
      cases hu : unitOf rs with
      | none => rw [hu] at h; exact h
      | some u =>
        rw [hu] at h
        dsimp only at h
        walk_at "dd"
        refine ⟨.int a, rfl, rs, u, a, rfl, hr, a0, a1, ?_⟩
        try dsimp only
        rw [optD_isN]
        exact h
    · rw [if_neg (by rw [z2]; simp)] at h
      refine ⟨by decide, .inr ⟨d, "unit", rfl, hd, by decide +kernel, ?_⟩⟩
      refine ite_ways (fun z3 => ?_) (fun z3 => ?_)
      · rw [if_pos z3] at h
        try dsimp only
        rw [optD_isN]
        exact h
      · rw [if_neg (by rw [z3]; simp)] at h
        refine ⟨by decide, .inr ⟨d, "group", rfl, hd, by decide +kernel, ?_⟩⟩
        refine bool_ways (fun z4 => ?_) (fun z4 => ?_)
        · rw [z4] at h
          refine ⟨rs, rfl, hr, ?_⟩
          refine ⟨by decide, (fault_grp rs).1, by decide +kernel, ?_⟩
          rw [(fault_grp rs).2]
          exact h
        · rw [z4] at h; exact h
end
end Dn
set_option Elab.async false
set_option linter.all false
set_option maxRecDepth 100000
set_option autoImplicit false
set_option maxHeartbeats 4000000
namespace Dn
open PySem L2 Evl PySem.Spec PyProof.Rows
local macro_rules | `(tactic| walk_at "dd") => `(tactic| simp only [sSeq, sIf, sSet, sRet, sRetN, sNx, sEx, sAsg, sPar, dTOr, dTAnd, dTNot, dTst, dIsi, dVar, dC, dBin, dChain, dNeg, dI2, dAnd, dOr, dNot, dIfE, dCall, dCallF, aCons, aNil, dTup, lLst, dOfL, xIm, xOw, gNm, gTp, gsCons, gsNil, dYes, envD, dLen_tR, dLen_tI, dLen_tup, dLen_lst, seq_tR, seq_tI, seq_tup, seq_lst, dIs, dIsNot, dNe, dEq, dTupOf, dSl, oNone, oSome, iSq, iEn, iR1, iR2, sFor, lLc, sNever, dTRg, rg1, rg2, lRg, wipeD, optD,
  dIxP, sSub, dApp, dPopAt, dExt, dCallM, dCallO, dBinO, dTupO, lOf, lOfO, sRetO, iOw, dVarF, lCat, lCall, dAbs, dMax2, dMin2, dInt, atO, setO, MO.getL, MO.putL, Option.isSome_some,
  kit_int, kit_bool, kit_tuple, kit_str, List.map_cons, List.map_nil, List.cons_append, List.nil_append, List.replicate, List.set_cons_zero, List.set_cons_succ, List.getElem?_cons_zero, List.getElem?_cons_succ, List.length_cons, List.length_nil, List.length_map, Nat.reduceAdd, Nat.reduceSub, Bool.not_true, Bool.not_false, Bool.false_eq_true, if_true, if_false, true_and, reduceCtorEq, Bool.true_eq_false, rgD_rgI, Option.some.injEq, exists_eq_left', and_true])
section
variable {P : Program} {w : World} {K : PySem.W.Frag} {mg : Str → Option Value} {base : Heap}
theorem cm_l {i j : Int} (h : -(2 ^ 64) < i ∧ i < 2 ^ 64) : CMul i j ∨ CMulW i j := .inl (.inl h)
theorem cm_r {i j : Int} (h : -(2 ^ 64) < j ∧ j < 2 ^ 64) : CMul i j ∨ CMulW i j := .inl (.inr h)
theorem cd_t {i t : Int} (h0 : 0 < t) (h1 : t ≤ 1000000000000000000000000000000000000000000000000000000000000) : CDivW i t := wide_div (b := 200) h0 (Nat.lt_of_le_of_lt (show t.natAbs ≤ 1000000000000000000000000000000000000000000000000000000000000 by omega) (by decide +kernel)) (by decide) (by decide)
theorem dc_ok (a b c : Int) : Dc [.int a, .int b, .int c] := ⟨a, b, c, rfl⟩
theorem ok_dice (F : Is K mg "_law_dice" st__law_dice) (B : Bl mg) : Ok P w K mg base "_law_dice" P__law_dice 1 (spL K 2 S__law_dice) := by
  refine ok_L F sc__law_dice bs__law_dice (j__law_dice B) fun ds Q _ h => ?_
  obtain ⟨s, i, rfl, i0, h⟩ := h
  unfold g__law_dice
  have e16 : CPow 10 16 := by unfold CPow; decide +kernel
  have e60 : CPow 10 60 := by unfold CPow; decide +kernel
  have m60 : CMul (10 ^ Int.toNat 60) (10 ^ Int.toNat 60) ∨ CMulW (10 ^ Int.toNat 60) (10 ^ Int.toNat 60) := .inr (by unfold CMulW; decide +kernel)
  have p60 : (0 : Int) < 10 ^ Int.toNat 60 * 10 ^ Int.toNat 60 := by decide +kernel
  have s877 : CMul 877 i ∨ CMulW 877 i := cm_l ⟨by decide, by decide⟩
  have fin : ∀ z : Int, dAbs [.int z] fun z_1 => CPow 10 16 ∧ dSub z_1 (PyData.int (10 ^ Int.toNat 16)) fun z_2 => dMax2 [.int 0, z_2] fun z_3 => CPow 10 60 ∧ CPow 10 60 ∧ (CMul (10 ^ Int.toNat 60) (10 ^ Int.toNat 60) ∨ CMulW (10 ^ Int.toNat 60) (10 ^ Int.toNat 60)) ∧
      dMod z_3 (PyData.int (10 ^ Int.toNat 60 * 10 ^ Int.toNat 60)) fun z_4 => dAbs [.int z] fun z_5 => dMod z_5 (PyData.int 1152921504606845527) fun z_6 => dMulA z_6 (PyData.int 79) fun z_7 => (CMul 877 i ∨ CMulW 877 i) ∧ dAdd z_7 (PyData.int (877 * i)) fun z_8 =>
        dLt (.int z) (PyData.int 0) fun z => dInt [z] fun z => dMulA (PyData.int 41) z fun z => dAdd z_8 z fun z => dAdd z (PyData.int 23) fun z => 3 ≤ 16777216 ∧ Q [z_4, z, PyData.int 0] := fun z =>
    ⟨e16, trivial, e60, e60, m60, p60, (by show (0 : Int) < 1152921504606845527; decide), cm_r ⟨by decide, by decide⟩, s877, trivial, cm_l ⟨by decide, by decide⟩, by decide, h _ (dc_ok _ _ _)⟩
  walk_at "dd"
  refine ⟨trivial, ?_⟩
  refine ite_ways (b := decide (i < ((s.map PyData.int).length : Int))) (fun z => ?_) (fun z => ?_)
  · have z' : i < s.length := by simpa using z
    refine ⟨.int (s.getD i.toNat 0), ?_, fin _⟩
    have := atI_in (d := PyData.int 0) i0 (show i < ((s.map PyData.int).length : Int) by simpa using z')
    rw [show (s.map PyData.int).getD i.toNat (PyData.int 0) = .int (s.getD i.toNat 0) from by simp [List.getD]] at this
    exact this
  · exact ⟨cm_l ⟨by decide, by decide⟩, fin _⟩
theorem ok_roll (F : Is K mg "_law_roll" st__law_roll) (B : Bl mg) : Ok P w K mg base "_law_roll" P__law_roll 1 (spM K 2 S__law_roll) := by
  refine ok_M F sc__law_roll bs__law_roll (j__law_roll B) fun l ms ds Q _ h => ?_
  obtain ⟨t, rfl, t0, t1, ⟨a, b, c, rfl⟩, h⟩ := h
  unfold g__law_roll
  walk_at "dd"
  refine ⟨_, _, _, rfl, rfl, rfl, trivial, ?_⟩
  refine ite_ways (b := decide ((0 : Int) < a)) (fun z => ?_) (fun z => ?_)
  · refine ⟨_, _, _, rfl, rfl, rfl, t0, ?_⟩
    refine ⟨_, _, _, rfl, rfl, rfl, cd_t t0 t1, ?_⟩
    exact ⟨_, _, _, rfl, rfl, rfl, _, rfl, h _ _ (Int.emod_nonneg _ (by omega)) (Int.emod_lt_of_pos _ t0) (dc_ok _ _ _)⟩
  · refine ⟨_, _, _, rfl, rfl, rfl, ?_⟩
    refine ⟨_, _, _, rfl, rfl, rfl, ?_⟩
    refine ⟨_, _, _, rfl, rfl, rfl, ?_⟩
    refine ⟨_, _, _, rfl, rfl, rfl, cm_l ⟨by decide, by decide⟩, (by show (0 : Int) < 2305843009213691579; decide), ?_⟩
    have hb : ∀ x : Int, -(2 ^ 64) < x % 2305843009213691579 ∧ x % 2305843009213691579 < 2 ^ 64 := fun x => by
      have h1 := Int.emod_nonneg x (show (2305843009213691579 : Int) ≠ 0 by decide)
      have h2 := Int.emod_lt_of_pos x (show (0 : Int) < 2305843009213691579 by decide)
      omega
    refine ⟨cm_l (hb _), ?_⟩
    refine ⟨_, _, _, rfl, rfl, rfl, cm_l ⟨by decide, by decide⟩, (by show (0 : Int) < 2305843009213692227; decide), cm_r ⟨by decide, by decide⟩, ?_⟩
    refine ⟨⟨by decide, by decide +kernel⟩, t0, _, rfl, h _ _ (Int.emod_nonneg _ (by omega)) (Int.emod_lt_of_pos _ t0) (dc_ok _ _ _)⟩
end
end Dn
set_option Elab.async false
set_option linter.all false
set_option maxRecDepth 100000
set_option autoImplicit false
set_option maxHeartbeats 4000000
namespace Dn
open PySem L2 Evl PySem.Spec PyProof.Rows
local macro_rules | `(tactic| walk_at "dd") => `(tactic| simp only [sSeq, sIf, sSet, sRet, sRetN, sNx, sEx, sAsg, sPar, dTOr, dTAnd, dTNot, dTst, dIsi, dVar, dC, dBin, dChain, dNeg, dI2, dAnd, dOr, dNot, dIfE, dCall, dCallF, aCons, aNil, dTup, lLst, dOfL, xIm, xOw, gNm, gTp, gsCons, gsNil, dYes, envD, dLen_tR, dLen_tI, dLen_tup, dLen_lst, seq_tR, seq_tI, seq_tup, seq_lst, dIs, dIsNot, dNe, dEq, dTupOf, dSl, oNone, oSome, iSq, iEn, iR1, iR2, sFor, lLc, sNever, dTRg, rg1, rg2, lRg, wipeD, optD,
  dIxP, sSub, dApp, dPopAt, dExt, dCallM, dCallO, dBinO, dTupO, lOf, lOfO, sRetO, iOw, dVarF, lCat, lCall, dAbs, dMax2, dMin2, dInt, atO, setO, MO.getL, MO.putL, Option.isSome_some,
  kit_int, kit_bool, kit_tuple, kit_str, List.map_cons, List.map_nil, List.cons_append, List.nil_append, List.replicate, List.set_cons_zero, List.set_cons_succ, List.getElem?_cons_zero, List.getElem?_cons_succ, List.length_cons, List.length_nil, List.length_map, Nat.reduceAdd, Nat.reduceSub, Bool.not_true, Bool.not_false, Bool.false_eq_true, if_true, if_false, true_and, reduceCtorEq, Bool.true_eq_false, rgD_rgI, Option.some.injEq, exists_eq_left', and_true])
section
variable {P : Program} {w : World} {K : PySem.W.Frag} {mg : Str → Option Value} {base : Heap}
theorem dLen_seq {d : D} {xs : List D} {Q : D → Prop} (h : seqD d = some xs) : dLen [d] Q = Q (.int xs.length) := by unfold dLen; dsimp only; rw [h]
theorem ok_pick (F : Is K mg "_law_pick" st__law_pick) (B : Bl mg) (O1 : Ok P w K mg base "_law_roll" P__law_roll 1 (spM K 2 S__law_roll)) : Ok P w K mg base "_law_pick" P__law_pick 2 (spM K 2 S__law_pick) := by
  refine ok_M F sc__law_pick bs__law_pick (j__law_pick B O1) fun l ms ds Q _ h => ?_
  obtain ⟨d, xs, rfl, hd, hn, hl, hm, h⟩ := h
  unfold g__law_pick
  walk_at "dd"
  rw [dLen_seq hd]
  have pos : 0 < xs.length := List.length_pos_iff.mpr hn
  refine ⟨_, rfl, by omega, by simp only [T60]; omega, hm, fun r ms' r0 r1 hm' => ?_⟩
  unfold dIx
  rw [hd]
  dsimp only
  refine ⟨_, atI_in (d := .none) r0 r1, _, rfl, h _ _ (getD_mem (by omega)) hm'⟩
theorem erase_perm {L : List D} {r : Nat} (h : r < L.length) : (L[r] :: L.eraseIdx r).Perm L := by
  rw [List.eraseIdx_eq_take_drop_succ]
  refine List.perm_middle.symm.trans ?_
  rw [← List.drop_eq_getElem_cons h, List.take_append_drop]
theorem ok_mixed (F : Is K mg "_law_mixed" st__law_mixed) (B : Bl mg) (O1 : Ok P w K mg base "_law_roll" P__law_roll 1 (spM K 2 S__law_roll)) : Ok P w K mg base "_law_mixed" P__law_mixed 2 (spM K 2 S__law_mixed) := by
  refine ok_M F sc__law_mixed bs__law_mixed (j__law_mixed B O1) fun l ms ds Q _ h => ?_
  obtain ⟨d, xs, rfl, hd, hl, hm, h⟩ := h
  unfold g__law_mixed
  walk_at "dd"
  rw [hd]
  dsimp only
  rw [dLen_seq hd]
  refine ⟨by omega, ⟨by omega, by omega, by omega, by omega⟩, ?_⟩
  rw [rgD_rgI]
  refine wpFor_cps (fun done ρ => ∃ ms L Fd x, ρ = [some (SV.ow (MO.par l (MO.lst ms))), some (SV.im d), some (SV.ow (MO.lst L)), some (SV.ow (MO.lst Fd)), x] ∧ Dc ms ∧ (Fd ++ L).Perm xs ∧ Fd.length = done.length) ⟨ms, xs, [], _, rfl, hm, by simp, rfl⟩ (fun done d' rest ρ K e p k => ?_) (fun ρ p => ?_)
  · obtain ⟨ms, L, Fd, x, rfl, hm, hp, hf⟩ := p
    have hlen := hp.length_eq
    have he := congrArg List.length e
    simp [rgI_len] at he hlen
    walk_at "dd"
    refine ⟨rfl, _, rfl, by omega, by simp only [T60]; omega, hm, fun r ms' r0 r1 hm' => ?_⟩
    have hr : r.toNat < L.length := by omega
    refine ⟨L, r, r.toNat, L[r.toNat], rfl, rfl, r0, r1, rfl, List.getElem?_eq_getElem hr, by omega, by omega, ?_⟩
    refine k _ ⟨ms', L.eraseIdx r.toNat, Fd ++ [L[r.toNat]], _, rfl, hm', ?_, by simp [hf]⟩
    refine List.Perm.trans ?_ hp
    rw [List.append_assoc]
    refine List.Perm.append_left _ ?_
    exact erase_perm hr
  · obtain ⟨ms, L, Fd, x, rfl, hm, hp, hf⟩ := p
    have hlen := hp.length_eq
    simp [rgI_len] at hf hlen
    have : L = [] := List.length_eq_zero_iff.mp (by omega)
    subst this
    exact ⟨ms, rfl, h Fd ms (by simpa using hp) hm⟩
theorem perm_ints {ys : List D} {ns : List Int} (h : ys.Perm (ns.map PyData.int)) : ∃ ms : List Int, ys = ms.map PyData.int ∧ ms.Perm ns := by
  have : ∀ (xs ys : List D), xs.Perm ys → ∀ ns : List Int, ys = ns.map PyData.int → ∃ ms : List Int, xs = ms.map PyData.int ∧ ms.Perm ns := by
    intro xs ys h
    induction h with
    | nil => intro ns e; cases ns with | nil => exact ⟨[], rfl, .nil⟩ | cons _ _ => cases e
    | cons x h ih =>
      intro ns e
      cases ns with
      | nil => cases e
      | cons n ns =>
        simp at e
        obtain ⟨ms, e1, e2⟩ := ih ns e.2
        exact ⟨n :: ms, by simp [e1, e.1], e2.cons n⟩
    | swap x y l =>
      intro ns e
      match ns, e with
      | a :: b :: ns, e =>
        simp at e
        exact ⟨b :: a :: ns, by simp [e.1, e.2.1, e.2.2], .swap a b ns⟩
    | trans h1 h2 ih1 ih2 =>
      intro ns e
      obtain ⟨ms, e1, e2⟩ := ih2 ns e
      obtain ⟨ms2, e3, e4⟩ := ih1 ms e1
      exact ⟨ms2, e3, e4.trans e2⟩
  exact this _ _ h _ rfl
theorem ok_drawn_move (F : Is K mg "_law_drawn_move" st__law_drawn_move) (B : Bl mg) (O1 : Ok P w K mg base "_law_mixed" P__law_mixed 2 (spM K 2 S__law_mixed)) : Ok P w K mg base "_law_drawn_move" P__law_drawn_move 3 (spM K 2 S__law_drawn_move) := by
  refine ok_M F sc__law_drawn_move bs__law_drawn_move (j__law_drawn_move B O1) fun l ms ds Q _ h => ?_
  obtain ⟨n, rfl, hn, hm, h⟩ := h
  unfold g__law_drawn_move
  walk_at "dd"
  refine ⟨⟨by omega, by omega, by omega, by omega⟩, _, _, rfl, rfl, by simp [rgI_len]; omega, hm, fun ys ms' hp hm' => ?_⟩
  obtain ⟨m, rfl, hp2⟩ := perm_ints hp
  exact ⟨ms', rfl, h m ms' hp2 hm'⟩
theorem ok_undone (F : Is K mg "_law_undone" st__law_undone) (B : Bl mg) : Ok P w K mg base "_law_undone" P__law_undone 1 (spD K 1 S__law_undone) := by
  refine ok_D F sc__law_undone bs__law_undone (j__law_undone B) fun ds Q _ h => ?_
  obtain ⟨m, rfl, hl, hm, h⟩ := h
  unfold g__law_undone
  walk_at "dd"
  refine wpLc_mapL m PyData.int (fun _ => .int 0) (by omega) rfl (fun x hx K hK => ?_) (fun _ => rfl) ?_
  · walk_at "dd"
    exact hK _ rfl
  · walk_at "dd"
    rw [enD_map m PyData.int 0]
    refine wpFor_cps (fun done ρ => ∃ (u : List Int) (x y : Option SV), ρ = [some (SV.im (tI m)), some (SV.ow (MO.lst (u.map PyData.int))), x, y] ∧ u.length = m.length ∧ ∀ x, x ∈ u → 0 ≤ x ∧ x < m.length) ⟨m.map (fun _ => 0), _, _, (by rw [show (m.map fun _ => (0 : Int)).map PyData.int = m.map fun _ => PyData.int 0 from by rw [List.map_map]; rfl]), (by simp), fun x hx => ?_⟩ (fun done d rest ρ K e p k => ?_) (fun ρ p => ?_)
    · obtain ⟨y, hy, rfl⟩ := List.mem_map.mp hx
      have := hm y hy
      omega
    · obtain ⟨u, x, y, rfl, hu, hu2⟩ := p
      have hd : d ∈ (rgI m.length).map fun k => PyData.tuple [.int k, .int (m.getD k.toNat 0)] := by rw [e]; simp
      obtain ⟨k1, hk1, rfl⟩ := List.mem_map.mp hd
      obtain ⟨a0, a1⟩ := mem_rgI.mp hk1
      obtain ⟨g0, g1⟩ := hm _ (getD_mem (l := m) (d := 0) (show k1.toNat < m.length by omega))
      walk_at "dd"
      refine ⟨_, _, (m.getD k1.toNat 0).toNat, rfl, rfl, ?_, ?_⟩
      · unfold ixN
        rw [if_pos g0, if_pos (by simp [hu]; exact g1)]
      · refine k _ ⟨u.set (m.getD k1.toNat 0).toNat k1, _, _, (by rw [List.map_set]), (by simp [hu]), ?_⟩
        intro x hx
        rcases List.mem_or_eq_of_mem_set hx with hx | hx
        · exact hu2 x hx
        · subst hx; exact ⟨a0, a1⟩
    · obtain ⟨u, x, y, rfl, hu, hu2⟩ := p
      walk_at "dd"
      exact h u hu hu2
end
end Dn
set_option Elab.async false
set_option linter.all false
set_option maxRecDepth 100000
set_option autoImplicit false
set_option maxHeartbeats 4000000
namespace Dn
open PySem L2 Evl PySem.Spec PyProof.Rows
local macro_rules | `(tactic| walk_at "dd") => `(tactic| simp only [sSeq, sIf, sSet, sRet, sRetN, sNx, sEx, sAsg, sPar, dTOr, dTAnd, dTNot, dTst, dIsi, dVar, dC, dBin, dChain, dNeg, dI2, dAnd, dOr, dNot, dIfE, dCall, dCallF, aCons, aNil, dTup, lLst, dOfL, xIm, xOw, gNm, gTp, gsCons, gsNil, dYes, envD, dLen_tR, dLen_tI, dLen_tup, dLen_lst, seq_tR, seq_tI, seq_tup, seq_lst, dIs, dIsNot, dNe, dEq, dTupOf, dSl, oNone, oSome, iSq, iEn, iR1, iR2, sFor, lLc, sNever, dTRg, rg1, rg2, lRg, wipeD, optD,
  dIxP, sSub, dApp, dPopAt, dExt, dCallM, dCallO, dBinO, dTupO, lOf, lOfO, sRetO, iOw, dVarF, lCat, lCall, dAbs, dMax2, dMin2, dInt, atO, setO, MO.getL, MO.putL, Option.isSome_some,
  kit_int, kit_bool, kit_tuple, kit_str, List.map_cons, List.map_nil, List.cons_append, List.nil_append, List.replicate, List.set_cons_zero, List.set_cons_succ, List.getElem?_cons_zero, List.getElem?_cons_succ, List.length_cons, List.length_nil, List.length_map, Nat.reduceAdd, Nat.reduceSub, Bool.not_true, Bool.not_false, Bool.false_eq_true, if_true, if_false, true_and, reduceCtorEq, Bool.true_eq_false, rgD_rgI, Option.some.injEq, exists_eq_left', and_true])
section
variable {P : Program} {w : World} {K : PySem.W.Frag} {mg : Str → Option Value} {base : Heap}

theorem cm_n {i j : Int} (h0 : 0 ≤ i) (h : i ≤ 1000) : CMul i j ∨ CMulW i j := cm_l ⟨by omega, by omega⟩
theorem rgd {n : Nat} (h : n ≤ 1000) : RgD 0 (n : Int) := ⟨by omega, by omega, by omega, by omega⟩
theorem ok_places_of (F : Is K mg "_law_places_of" st__law_places_of) (B : Bl mg) : Ok P w K mg base "_law_places_of" P__law_places_of 1 (spD K 2 S__law_places_of) := by
  refine ok_D F sc__law_places_of bs__law_places_of (j__law_places_of B) fun ds Q _ h => ?_
  obtain ⟨c, s, rfl, hs, hc, h⟩ := h
  unfold g__law_places_of
  try walk_at "dd"
  have hc' : c ≤ 1000 := by
    rcases Nat.lt_or_ge 1000 c with z | z
    · have := Nat.mul_le_mul (Nat.succ_le_of_lt z) hs
      omega
    · exact z
  refine ⟨cm_n (by omega) (by omega), ?_⟩
  rw [show ((c : Int) * s) = ((c * s : Nat) : Int) from by simp, rgD_rgI]
  refine ⟨rgd hc, ?_⟩
  refine wpLc_mapL (rgI (c * s)) PyData.int (fun k => .tuple [.int (k / s), .int (k % s)]) (by rw [rgI_len]; omega) rfl (fun x hx K hK => ?_) (fun _ => rfl) ?_
  · try walk_at "dd"
    have s0 : (0 : Int) < s := by omega
    have s1 : (s : Int) ≤ 1000 := by
      rcases Nat.lt_or_ge 0 c with z | z
      · have := Nat.mul_le_mul z (Nat.le_refl s)
        omega
      · have : c = 0 := by omega
        subst this
        simp [rgI] at hx
    exact ⟨cd_t s0 (by omega), s0, by decide, hK _ rfl⟩
  · try walk_at "dd"
    exact h
theorem rows_l {l : List Int} {n : Nat} (hl : l.length = n) (h1 : 1 ≤ n) (h2 : n ≤ 24) (f : Int → Int → Int) (hf : ∀ a b : Int, a ∈ l → b ∈ l → 0 ≤ f a b ∧ f a b < n) : Rw (l.map fun a => l.map fun b => f a b) := by
  refine ⟨by simp; omega, by simp; omega, fun r hr => ?_⟩
  obtain ⟨a, ha, rfl⟩ := List.mem_map.mp hr
  refine ⟨by simp, fun x hx => ?_⟩
  obtain ⟨b, hb, rfl⟩ := List.mem_map.mp hx
  have := hf a b ha hb
  simp
  omega
theorem rows_of {n : Nat} (h1 : 1 ≤ n) (h2 : n ≤ 24) (f : Int → Int → Int) (hf : ∀ a b : Int, 0 ≤ a → a < n → 0 ≤ b → b < n → 0 ≤ f a b ∧ f a b < n) : Rw ((rgI n).map fun a => (rgI n).map fun b => f a b) :=
  rows_l (rgI_len n) h1 h2 f fun a b ha hb => hf a b (mem_rgI.mp ha).1 (mem_rgI.mp ha).2 (mem_rgI.mp hb).1 (mem_rgI.mp hb).2
theorem tR_l {l : List Int} (f : Int → Int → Int) : PyData.tuple (l.map fun a => .tuple (l.map fun b => .int (f a b))) = tR (l.map fun a => l.map fun b => f a b) := by
  unfold tR tI
  simp only [List.map_map, Function.comp_def]
theorem wpFor_ap {α : Type} {g : DG} {body : DS} {E : DEnds} (l : List α) (it h : α → D) (R : List D → Env → Prop) {ρ0 : Env} (h0 : R [] ρ0)
    (hs : ∀ x, x ∈ l → ∀ (acc : List D) (ρ : Env) (K : Env → Prop), R acc ρ → acc.length < l.length → (∀ ρ', R (acc ++ [h x]) ρ' → K ρ') → g (it x) ρ fun ρ1 => body { nx := K, ct := K, bk := E.nx, rt := E.rt } ρ1)
    (he : ∀ ρ, R (l.map h) ρ → E.nx ρ) : wpFor g body E (l.map it) ρ0 := by
  refine wpFor_cps (fun done ρ => R ((l.take done.length).map h) ρ) (by simpa using h0) (fun done d rest ρ K e p k => ?_) (fun ρ p => he ρ (by simpa using p))
  obtain ⟨l1, x, l2, rfl, rfl, rfl, rfl⟩ := map_split e
  refine hs x (by simp) _ ρ K p (by simp) fun ρ' q => k ρ' ?_
  simp only [List.length_append, List.length_map, List.length_cons, List.length_nil] at q ⊢
  rw [show l1.length + (0 + 1) = (l1 ++ [x]).length by simp, show l1 ++ x :: l2 = (l1 ++ [x]) ++ l2 by simp, List.take_left']
  · simp at q ⊢; exact q
  · rfl
theorem ok_cyclic (F : Is K mg "_law_cyclic" st__law_cyclic) (B : Bl mg) : Ok P w K mg base "_law_cyclic" P__law_cyclic 1 (spD K 1 S__law_cyclic) := by
  refine ok_D F sc__law_cyclic bs__law_cyclic (j__law_cyclic B) fun ds Q _ h => ?_
  obtain ⟨n, rfl, h1, h2, h⟩ := h
  unfold g__law_cyclic
  try walk_at "dd"
  refine ⟨rgd (by omega), ?_⟩
  refine wpLc_mapL (rgI n) PyData.int (fun a => .tuple ((rgI n).map fun b => .int ((a + b) % n))) (by rw [rgI_len]; omega) rfl (fun a ha K hK => ?_) (fun _ => rfl) ?_
  · try walk_at "dd"
    refine ⟨rgd (by omega), ?_⟩
    refine wpLc_mapL (rgI n) PyData.int (fun b => .int ((a + b) % n)) (by rw [rgI_len]; omega) rfl (fun b hb K hK => ?_) (fun _ => rfl) ?_
    · try walk_at "dd"
      exact ⟨(show (0:Int) < n by omega), hK _ rfl⟩
    · try walk_at "dd"
      exact hK _ rfl
  · try walk_at "dd"
    rw [tR_l fun a b => (a + b) % n]
    refine h _ (rows_of h1 h2 _ fun a b _ _ _ _ => ⟨Int.emod_nonneg _ (by omega), Int.emod_lt_of_pos _ (by omega)⟩) (by simp [rgI_len])
theorem ok_direct (F : Is K mg "_law_direct" st__law_direct) (B : Bl mg) (O1 : Ok P w K mg base "_law_product_dots" P__law_product_dots 2 (spD K 2 S__law_product_dots)) : Ok P w K mg base "_law_direct" P__law_direct 3 (spD K 2 S__law_direct) := by
  refine ok_D F sc__law_direct bs__law_direct (j__law_direct B O1) fun ds Q _ h => ?_
  obtain ⟨rs1, rs2, rfl, h1, h2, hl, h⟩ := h
  unfold g__law_direct
  try walk_at "dd"
  refine ⟨rs1, rs2, rfl, h1, h2, hl, fun C hC hl => ?_⟩
  try walk_at "dd"
  exact h C hC hl
theorem dv_ok {k : Int} {c s : Nat} (hk : k ∈ rgI (c * s)) (h : 1 ≤ s) : (0 ≤ k / s ∧ k / s < c) ∧ 0 ≤ k % s ∧ k % s < s := by
  obtain ⟨k0, k1⟩ := mem_rgI.mp hk
  have s0 : (0 : Int) < s := by omega
  exact ⟨⟨Int.ediv_nonneg k0 (by omega), Int.ediv_lt_of_lt_mul s0 (by simpa using k1)⟩, Int.emod_nonneg _ (by omega), Int.emod_lt_of_pos _ s0⟩
theorem lt_mul {x y c s : Int} (h0 : 0 ≤ x) (h1 : x < c) (h2 : 0 ≤ y) (h3 : y < s) : 0 ≤ x * s + y ∧ x * s + y < c * s := by
  have a := Int.mul_nonneg h0 (show (0 : Int) ≤ s by omega)
  have b := Int.mul_le_mul_of_nonneg_right (show x + 1 ≤ c by omega) (show (0 : Int) ≤ s by omega)
  rw [Int.add_mul] at b
  omega
theorem ok_product_dots (F : Is K mg "_law_product_dots" st__law_product_dots) (B : Bl mg) (O1 : Ok P w K mg base "_law_places_of" P__law_places_of 1 (spD K 2 S__law_places_of)) : Ok P w K mg base "_law_product_dots" P__law_product_dots 2 (spD K 2 S__law_product_dots) := by
  refine ok_D F sc__law_product_dots bs__law_product_dots (j__law_product_dots B O1) fun ds Q _ h => ?_
  obtain ⟨A, C, rfl, hA, hC, hl, h⟩ := h
  have a1 := hA.pos
  have c1 := hC.pos
  unfold g__law_product_dots
  try walk_at "dd"
  refine ⟨by decide, A.length, C.length, rfl, c1, by omega, ?_⟩
  dsimp only
  refine ⟨_, rfl, ?_⟩
  refine wpFor_ap (rgI (A.length * C.length)) (fun k => .tuple [.int (k / C.length), .int (k % C.length)]) (fun k => tI ((rgI (A.length * C.length)).map fun j => rc A (k / C.length) (j / C.length) * C.length + rc C (k % C.length) (j % C.length))) (fun acc ρ => ∃ x1 x2 x3 x4 x5 x6, ρ = [some (.im (tR A)), some (.im (tR C)), some (.im (.int C.length)), some (.ow (.lst acc)), some (.im (.list ((rgI (A.length * C.length)).map fun k => .tuple [.int (k / C.length), .int (k % C.length)]))), x1, x2, x3, x4, x5, x6]) ⟨_, _, _, _, _, _, rfl⟩ (fun k hk acc ρ K p q r => ?_) (fun ρ p => ?_)
  · obtain ⟨x1, x2, x3, x4, x5, x6, rfl⟩ := p
    try walk_at "dd"
    obtain ⟨⟨k0, k1⟩, k2, k3⟩ := dv_ok hk c1
    rw [rgI_len] at q
    refine ixR k0 k1 (ixR k2 k3 ?_)
    refine wpLc_mapL (rgI (A.length * C.length)) (fun k => .tuple [.int (k / C.length), .int (k % C.length)]) (fun j => .int (rc A (k / C.length) (j / C.length) * C.length + rc C (k % C.length) (j % C.length))) (by rw [rgI_len]; omega) rfl (fun j hj K hK => ?_) (fun _ => rfl) ?_
    · try walk_at "dd"
      obtain ⟨⟨j0, j1⟩, j2, j3⟩ := dv_ok hj c1
      refine ixI j0 (by rw [hA.len k0 k1]; exact j1) ?_
      obtain ⟨p0, p1⟩ := hA.rc k0 k1 j0 j1
      have al : A.length ≤ 24 := hA.most
      refine ⟨cm_n p0 (by show rc A _ _ ≤ 1000; omega), ?_⟩
      exact ixI j2 (by rw [hC.len k2 k3]; exact j3) (hK _ rfl)
    · try walk_at "dd"
      refine ⟨by omega, ?_⟩
      rw [show ∀ f : Int → Int, PyData.tuple ((rgI (A.length * C.length)).map fun b => .int (f b)) = tI ((rgI (A.length * C.length)).map f) from fun f => by unfold tI; simp only [List.map_map, Function.comp_def]]
      exact r _ ⟨_, _, _, _, _, _, rfl⟩
  · obtain ⟨x1, x2, x3, x4, x5, x6, rfl⟩ := p
    try walk_at "dd"
    rw [show ∀ f : Int → List Int, (rgI (A.length * C.length)).map (fun b => tI (f b)) = ((rgI (A.length * C.length)).map f).map tI from fun f => by simp only [List.map_map, Function.comp_def]]
    have := Nat.mul_le_mul a1 c1
    refine h _ (rows_of (by omega) hl _ fun a b a0 a1 b0 b1 => ?_) (by simp [rgI_len])
    obtain ⟨⟨k0, k1⟩, k2, k3⟩ := dv_ok (mem_rgI.mpr ⟨a0, a1⟩) c1
    obtain ⟨⟨j0, j1⟩, j2, j3⟩ := dv_ok (mem_rgI.mpr ⟨b0, b1⟩) c1
    obtain ⟨p0, p1⟩ := hA.rc k0 k1 j0 j1
    obtain ⟨q0, q1⟩ := hC.rc k2 k3 j2 j3
    have := lt_mul p0 p1 q0 q1
    simpa using this
theorem ok_renamed_group (F : Is K mg "_law_renamed_group" st__law_renamed_group) (B : Bl mg) (O1 : Ok P w K mg base "_law_undone" P__law_undone 1 (spD K 1 S__law_undone)) : Ok P w K mg base "_law_renamed_group" P__law_renamed_group 2 (spD K 2 S__law_renamed_group) := by
  refine ok_D F sc__law_renamed_group bs__law_renamed_group (j__law_renamed_group B O1) fun ds Q _ h => ?_
  obtain ⟨rs, m, rfl, hr, hp, h⟩ := h
  have r1 := hr.pos
  have r2 := hr.most
  have ml : m.length = rs.length := by rw [hp.length_eq, rgI_len]
  have mm : ∀ x, x ∈ m → 0 ≤ x ∧ x < rs.length := fun x hx => mem_rgI.mp (hp.mem_iff.mp hx)
  unfold g__law_renamed_group
  try walk_at "dd"
  refine ⟨m, rfl, by omega, by rw [ml]; exact mm, fun u hu hu2 => ?_⟩
  rw [ml] at hu hu2
  try walk_at "dd"
  refine wpLc_mapL m PyData.int (fun a => .tuple (m.map fun b => .int (u.getD (rc rs a b).toNat 0))) (by omega) rfl (fun a ha K hK => ?_) (fun _ => rfl) ?_
  · try walk_at "dd"
    refine wpLc_mapL m PyData.int (fun b => .int (u.getD (rc rs a b).toNat 0)) (by omega) rfl (fun b hb K hK => ?_) (fun _ => rfl) ?_
    · try walk_at "dd"
      obtain ⟨a0, a1⟩ := mm a ha
      obtain ⟨b0, b1⟩ := mm b hb
      obtain ⟨p0, p1⟩ := hr.rc a0 a1 b0 b1
      exact ixRC hr a0 a1 b0 b1 (ixI p0 (by rw [hu]; exact p1) (hK _ rfl))
    · try walk_at "dd"
      exact hK _ rfl
  · try walk_at "dd"
    rw [tR_l fun a b => u.getD (rc rs a b).toNat 0]
    refine h _ (rows_l ml r1 r2 _ fun a b ha hb => ?_) (by simp [ml])
    obtain ⟨a0, a1⟩ := mm a ha
    obtain ⟨b0, b1⟩ := mm b hb
    obtain ⟨p0, p1⟩ := hr.rc a0 a1 b0 b1
    exact hu2 _ (getD_mem (by omega))
theorem ok_turned_pairs (F : Is K mg "_law_turned_pairs" st__law_turned_pairs) (B : Bl mg) : Ok P w K mg base "_law_turned_pairs" P__law_turned_pairs 1 (spD K 1 S__law_turned_pairs) := by
  refine ok_D F sc__law_turned_pairs bs__law_turned_pairs (j__law_turned_pairs B) fun ds Q _ h => ?_
  obtain ⟨n, rfl, h1, h2, h⟩ := h
  unfold g__law_turned_pairs
  try walk_at "dd"
  refine ⟨by decide, cm_n (by decide) (by decide), ?_⟩
  rw [show ((2 : Int) * n) = ((2 * n : Nat) : Int) from by simp, rgD_rgI]
  refine ⟨rgd (by omega), ?_⟩
  refine wpFor_ap (rgI (2 * n)) PyData.int (fun a => tI ((rgI (2 * n)).map fun b => (a / 2 + (if a % 2 = 0 then b / 2 else (n : Int) - b / 2)) % n * 2 + (a + b) % 2)) (fun acc ρ => ∃ x1 x2 x3 x4, ρ = [some (.im (.int n)), some (.ow (.lst acc)), x1, x2, x3, x4]) ⟨_, _, _, _, rfl⟩ (fun a ha acc ρ K p q r => ?_) (fun ρ p => ?_)
  · obtain ⟨x1, x2, x3, x4, rfl⟩ := p
    try walk_at "dd"
    refine ⟨by decide, cm_n (by decide) (by decide), ?_⟩
    rw [show ((2 : Int) * n) = ((2 * n : Nat) : Int) from by simp, rgD_rgI]
    refine ⟨rgd (by omega), ?_⟩
    refine wpFor_ap (rgI (2 * n)) PyData.int (fun b => .int ((a / 2 + (if a % 2 = 0 then b / 2 else (n : Int) - b / 2)) % n * 2 + (a + b) % 2)) (fun acc2 ρ => ∃ x3 x4, ρ = [some (.im (.int n)), some (.ow (.lst acc)), some (.im (.int a)), some (.ow (.lst acc2)), x3, x4]) ⟨_, _, rfl⟩ (fun b hb acc2 ρ K p q2 r2 => ?_) (fun ρ p => ?_)
    · obtain ⟨x3, x4, rfl⟩ := p
      try walk_at "dd"
      rw [rgI_len] at q2
      simp only [PyData.eqv, beq_iff_eq]
      refine ⟨by decide, rfl, rfl, ?_⟩
      by_cases z : a % 2 = 0
      · rw [if_pos z]
        simp only [if_pos z] at r2
        exact ⟨cd_t (by decide) (by decide), cd_t (by decide) (by decide), (show (0:Int) < n by omega), cm_r ⟨by decide, by decide⟩, (show (0:Int) < 2 by decide), by omega, r2 _ ⟨_, _, rfl⟩⟩
      · rw [if_neg z]
        simp only [if_neg z] at r2
        exact ⟨cd_t (by decide) (by decide), cd_t (by decide) (by decide), (show (0:Int) < n by omega), cm_r ⟨by decide, by decide⟩, (show (0:Int) < 2 by decide), by omega, r2 _ ⟨_, _, rfl⟩⟩
    · obtain ⟨x3, x4, rfl⟩ := p
      try walk_at "dd"
      rw [rgI_len] at q
      refine ⟨by omega, ?_⟩
      rw [show ∀ f : Int → Int, PyData.tuple ((rgI (2 * n)).map fun b => .int (f b)) = tI ((rgI (2 * n)).map f) from fun f => by unfold tI; simp only [List.map_map, Function.comp_def]]
      exact r _ ⟨_, _, _, _, rfl⟩
  · obtain ⟨x1, x2, x3, x4, rfl⟩ := p
    try walk_at "dd"
    rw [show ∀ f : Int → List Int, PyData.tuple ((rgI (2 * n)).map fun b => tI (f b)) = tR ((rgI (2 * n)).map f) from fun f => by unfold tR; simp only [List.map_map, Function.comp_def]]
    refine h _ (rows_of (by omega) (by omega) _ fun a b _ _ _ _ => ?_) (by simp [rgI_len])
    have e1 := Int.emod_nonneg (a / 2 + (if a % 2 = 0 then b / 2 else (n : Int) - b / 2)) (show (n : Int) ≠ 0 by omega)
    have e2 := Int.emod_lt_of_pos (a / 2 + (if a % 2 = 0 then b / 2 else (n : Int) - b / 2)) (show (0 : Int) < n by omega)
    generalize (a / 2 + (if a % 2 = 0 then b / 2 else (n : Int) - b / 2)) % (n : Int) = v at e1 e2 ⊢
    omega
end
end Dn
set_option Elab.async false
set_option linter.all false
set_option maxRecDepth 100000
set_option autoImplicit false
set_option maxHeartbeats 4000000
namespace Dn
open PySem L2 Evl PySem.Spec PyProof.Rows
local macro_rules | `(tactic| walk_at "dd") => `(tactic| simp only [sSeq, sIf, sSet, sRet, sRetN, sNx, sEx, sAsg, sPar, dTOr, dTAnd, dTNot, dTst, dIsi, dVar, dC, dBin, dChain, dNeg, dI2, dAnd, dOr, dNot, dIfE, dCall, dCallF, aCons, aNil, dTup, lLst, dOfL, xIm, xOw, gNm, gTp, gsCons, gsNil, dYes, envD, dLen_tR, dLen_tI, dLen_tup, dLen_lst, seq_tR, seq_tI, seq_tup, seq_lst, dIs, dIsNot, dNe, dEq, dTupOf, dSl, oNone, oSome, iSq, iEn, iR1, iR2, sFor, lLc, sNever, dTRg, rg1, rg2, lRg, wipeD, optD,
  dIxP, sSub, dApp, dPopAt, dExt, dCallM, dCallO, dBinO, dTupO, lOf, lOfO, sRetO, iOw, dVarF, lCat, lCall, dAbs, dMax2, dMin2, dInt, atO, setO, MO.getL, MO.putL, Option.isSome_some,
  kit_int, kit_bool, kit_tuple, kit_str, List.map_cons, List.map_nil, List.cons_append, List.nil_append, List.replicate, List.set_cons_zero, List.set_cons_succ, List.getElem?_cons_zero, List.getElem?_cons_succ, List.length_cons, List.length_nil, List.length_map, Nat.reduceAdd, Nat.reduceSub, Bool.not_true, Bool.not_false, Bool.false_eq_true, if_true, if_false, true_and, reduceCtorEq, Bool.true_eq_false, rgD_rgI, Option.some.injEq, exists_eq_left', and_true])
section
variable {P : Program} {w : World} {K : PySem.W.Frag} {mg : Str → Option Value} {base : Heap}


theorem wpLc_all {g : DG} {tt : DT} {te : DE} {vs : List Nat} {Q : List D → Env → Prop} {ds : List D} {ρ0 : Env} (Good : D → Prop) (I : Env → Prop) (h0 : I ρ0) (hl : ds.length < 16777216)
    (hs : ∀ d, d ∈ ds → ∀ (ρ : Env) (K : D → Env → Prop), I ρ → (∀ y ρ3, Good y → I (wipeD ρ3 vs) → K y ρ3) → g d (wipeD ρ vs) fun ρ1 => te ρ1 fun y ρ3 => K y ρ3)
    (hf : ∀ ρ1, tt ρ1 = fun K => K true ρ1) (he : ∀ acc ρ, acc.length = ds.length → (∀ y, y ∈ acc → Good y) → I ρ → Q acc ρ) : wpLc g tt te vs Q ds [] ρ0 := by
  refine wpLc_cps (fun done acc ρ => acc.length = done.length ∧ (∀ y, y ∈ acc → Good y) ∧ I ρ) ⟨rfl, by simp, h0⟩ (fun done d rest acc ρ K e p k => ?_) (fun acc ρ p => he acc ρ p.1 p.2.1 p.2.2)
  have el := congrArg List.length e
  simp at el
  refine ⟨by omega, ?_⟩
  simp only [hf, if_true]
  refine hs d (by rw [e]; simp) ρ _ p.2.2 fun y ρ3 gy i => k _ _ ⟨by simp [p.1], fun z hz => ?_, i⟩
  rcases List.mem_append.mp hz with hz | hz
  · exact p.2.1 z hz
  · rw [List.mem_singleton.mp hz]; exact gy
theorem wpFor_inv {g : DG} {body : DS} {E : DEnds} {ds : List D} {ρ0 : Env} (I : Env → Prop) (h0 : I ρ0)
    (hs : ∀ d, d ∈ ds → ∀ (ρ : Env) (K : Env → Prop), I ρ → (∀ ρ', I ρ' → K ρ') → g d ρ fun ρ1 => body { nx := K, ct := K, bk := E.nx, rt := E.rt } ρ1)
    (he : ∀ ρ, I ρ → E.nx ρ) : wpFor g body E ds ρ0 :=
  wpFor_cps (fun _ ρ => I ρ) h0 (fun done d rest ρ K e p k => hs d (by rw [e]; simp) ρ K p k) he
theorem all_map {α : Type} {f : α → D} {R : α → Prop} : ∀ {acc : List D}, (∀ y, y ∈ acc → ∃ r, y = f r ∧ R r) → ∃ C : List α, acc = C.map f ∧ ∀ r, r ∈ C → R r
  | [], _ => ⟨[], rfl, by simp⟩
  | y :: acc, h => by
    obtain ⟨r, rfl, hr⟩ := h y (by simp)
    obtain ⟨C, rfl, hC⟩ := all_map (acc := acc) fun y hy => h y (by simp [hy])
    exact ⟨r :: C, rfl, fun z hz => by rcases List.mem_cons.mp hz with rfl | hz; exact hr; exact hC z hz⟩
theorem mem_rgD {i j : Int} {d : D} (h : d ∈ rgD i j) : ∃ k : Int, d = .int k ∧ i ≤ k ∧ k < j := by
  unfold rgD at h
  obtain ⟨k, hk, rfl⟩ := List.mem_map.mp h
  have := List.mem_range.mp hk
  exact ⟨_, rfl, by omega, by omega⟩
theorem rgD_len {i j : Int} : (rgD i j).length = (j - i).toNat := by unfold rgD; simp
theorem rows_set {rs : List (List Int)} (hr : Rw rs) {a b v : Int} (a0 : 0 ≤ a) (a1 : a < rs.length) (v0 : 0 ≤ v) (v1 : v < rs.length) : Rw (rs.set a.toNat ((rs.getD a.toNat []).set b.toNat v)) := by
  refine ⟨by simp [hr.pos], by simp [hr.most], fun r h => ?_⟩
  simp only [List.length_set]
  rcases List.mem_or_eq_of_mem_set h with h | rfl
  · exact hr.row r h
  · have hm := hr.row _ (getD_mem (d := []) (show a.toNat < rs.length by omega))
    refine ⟨by simpa using hm.1, fun x hx => ?_⟩
    rcases List.mem_or_eq_of_mem_set hx with hx | rfl
    · exact hm.2 x hx
    · exact ⟨v0, v1⟩
end
end Dn
set_option Elab.async false
set_option linter.all false
set_option maxRecDepth 100000
set_option autoImplicit false
set_option maxHeartbeats 4000000
namespace Dn
open PySem L2 Evl PySem.Spec PyProof.Rows
local macro_rules | `(tactic| walk_at "dd") => `(tactic| simp only [sSeq, sIf, sSet, sRet, sRetN, sNx, sEx, sAsg, sPar, dTOr, dTAnd, dTNot, dTst, dIsi, dVar, dC, dBin, dChain, dNeg, dI2, dAnd, dOr, dNot, dIfE, dCall, dCallF, aCons, aNil, dTup, lLst, dOfL, xIm, xOw, gNm, gTp, gsCons, gsNil, dYes, envD, dLen_tR, dLen_tI, dLen_tup, dLen_lst, seq_tR, seq_tI, seq_tup, seq_lst, dIs, dIsNot, dNe, dEq, dTupOf, dSl, oNone, oSome, iSq, iEn, iR1, iR2, sFor, lLc, sNever, dTRg, rg1, rg2, lRg, wipeD, optD,
  dIxP, sSub, dApp, dPopAt, dExt, dCallM, dCallO, dBinO, dTupO, lOf, lOfO, sRetO, iOw, dVarF, lCat, lCall, dAbs, dMax2, dMin2, dInt, atO, setO, MO.getL, MO.putL, Option.isSome_some,
  kit_int, kit_bool, kit_tuple, kit_str, List.map_cons, List.map_nil, List.cons_append, List.nil_append, List.replicate, List.set_cons_zero, List.set_cons_succ, List.getElem?_cons_zero, List.getElem?_cons_succ, List.length_cons, List.length_nil, List.length_map, Nat.reduceAdd, Nat.reduceSub, Bool.not_true, Bool.not_false, Bool.false_eq_true, if_true, if_false, true_and, reduceCtorEq, Bool.true_eq_false, rgD_rgI, Option.some.injEq, exists_eq_left', and_true])
section
variable {P : Program} {w : World} {K : PySem.W.Frag} {mg : Str → Option Value} {base : Heap}

theorem cut_lo {ds : List D} {b : Int} (h0 : 0 ≤ b) (h1 : b ≤ ds.length) : cutD ds none (some b) = ds.take b.toNat := by
  unfold cutD HT.sIx
  simp only [List.drop_zero, Nat.sub_zero]
  congr 1
  rw [if_neg (by omega)]
  omega
theorem cut_hi {ds : List D} {b : Int} (h0 : 0 ≤ b) (h1 : b < ds.length) : cutD ds (some (b + 1)) none = ds.drop (b.toNat + 1) := by
  unfold cutD HT.sIx
  dsimp only
  rw [List.take_of_length_le (by simp)]
  congr 1
  have : ¬ b + 1 < 0 := by omega
  rw [if_neg this]
  omega
theorem ok_with_entry (F : Is K mg "_law_with_entry" st__law_with_entry) : Ok P w K mg base "_law_with_entry" P__law_with_entry 1 (spD K 4 S__law_with_entry) := by
  refine ok_D F sc__law_with_entry bs__law_with_entry j__law_with_entry fun ds Q _ h => ?_
  obtain ⟨rs, a, b, v, rfl, hr, ⟨a0, a1⟩, ⟨b0, b1⟩, ⟨v0, v1⟩, h⟩ := h
  have r1 := hr.pos
  have r2 := hr.most
  unfold g__law_with_entry
  walk_at "dd"
  have rl := hr.len a0 a1
  have h := h _ (rows_set (b := b) hr a0 a1 v0 v1) (by simp)
  refine ixR a0 a1 ?_
  generalize hrow : rs.getD a.toNat [] = r at rl h
  have e1 : cutD (r.map PyData.int) none (some b) = (r.take b.toNat).map PyData.int := by rw [cut_lo b0 (by simp; omega), List.map_take]
  have e2 : cutD (r.map PyData.int) (some (b + 1)) none = (r.drop (b.toNat + 1)).map PyData.int := by rw [cut_hi b0 (by simp; omega), List.map_drop]
  have e3 : cutD (rs.map tI) none (some a) = (rs.take a.toNat).map tI := by rw [cut_lo a0 (by simp; omega), List.map_take]
  have e4 : cutD (rs.map tI) (some (a + 1)) none = (rs.drop (a.toNat + 1)).map tI := by rw [cut_hi a0 (by simp; omega), List.map_drop]
  have f1 : r.take b.toNat ++ v :: r.drop (b.toNat + 1) = r.set b.toNat v := by rw [List.set_eq_take_append_cons_drop, if_pos (by omega)]
  have f2 : ∀ x, rs.take a.toNat ++ x :: rs.drop (a.toNat + 1) = rs.set a.toNat x := fun x => by rw [List.set_eq_take_append_cons_drop, if_pos (by omega)]
  have g1 : PyData.tuple ((r.take b.toNat).map PyData.int ++ [.int v] ++ (r.drop (b.toNat + 1)).map PyData.int) = tI (r.set b.toNat v) := by rw [← f1]; unfold tI; simp
  have g2 : PyData.tuple ((rs.take a.toNat).map tI ++ [tI (r.set b.toNat v)] ++ (rs.drop (a.toNat + 1)).map tI) = tR (rs.set a.toNat (r.set b.toNat v)) := by rw [← f2]; unfold tR; simp
  unfold tI
  simp only [dAdd]
  rw [e1]
  refine ⟨by decide, by simp; omega, ?_⟩
  refine ixR a0 a1 ?_
  rw [hrow]
  unfold tI
  dsimp only
  rw [e2]
  refine ⟨by simp; omega, ?_⟩
  rw [g1]
  unfold tR
  dsimp only
  rw [e3]
  refine ⟨by decide, by simp; omega, ?_⟩
  rw [e4]
  refine ⟨by simp; omega, ?_⟩
  rw [g2]
  exact h
end
end Dn
set_option Elab.async false
set_option linter.all false
set_option maxRecDepth 100000
set_option autoImplicit false
set_option maxHeartbeats 4000000
namespace Dn
open PySem L2 Evl PySem.Spec PyProof.Rows
local macro_rules | `(tactic| walk_at "dd") => `(tactic| simp only [sSeq, sIf, sSet, sRet, sRetN, sNx, sEx, sAsg, sPar, dTOr, dTAnd, dTNot, dTst, dIsi, dVar, dC, dBin, dChain, dNeg, dI2, dAnd, dOr, dNot, dIfE, dCall, dCallF, aCons, aNil, dTup, lLst, dOfL, xIm, xOw, gNm, gTp, gsCons, gsNil, dYes, envD, dLen_tR, dLen_tI, dLen_tup, dLen_lst, seq_tR, seq_tI, seq_tup, seq_lst, dIs, dIsNot, dNe, dEq, dTupOf, dSl, oNone, oSome, iSq, iEn, iR1, iR2, sFor, lLc, sNever, dTRg, rg1, rg2, lRg, wipeD, optD,
  dIxP, sSub, dApp, dPopAt, dExt, dCallM, dCallO, dBinO, dTupO, lOf, lOfO, sRetO, iOw, dVarF, lCat, lCall, dAbs, dMax2, dMin2, dInt, atO, setO, MO.getL, MO.putL, Option.isSome_some,
  kit_int, kit_bool, kit_tuple, kit_str, List.map_cons, List.map_nil, List.cons_append, List.nil_append, List.replicate, List.set_cons_zero, List.set_cons_succ, List.getElem?_cons_zero, List.getElem?_cons_succ, List.length_cons, List.length_nil, List.length_map, Nat.reduceAdd, Nat.reduceSub, Bool.not_true, Bool.not_false, Bool.false_eq_true, if_true, if_false, true_and, reduceCtorEq, Bool.true_eq_false, rgD_rgI, Option.some.injEq, exists_eq_left', and_true])
section
variable {P : Program} {w : World} {K : PySem.W.Frag} {mg : Str → Option Value} {base : Heap}

theorem ok_near_group (F : Is K mg "_law_near_group" st__law_near_group) (B : Bl mg) (O1 : Ok P w K mg base "_law_roll" P__law_roll 1 (spM K 2 S__law_roll)) (O2 : Ok P w K mg base "_law_drawn_move" P__law_drawn_move 3 (spM K 2 S__law_drawn_move)) (O3 : Ok P w K mg base "_law_with_entry" P__law_with_entry 1 (spD K 4 S__law_with_entry)) :
    Ok P w K mg base "_law_near_group" P__law_near_group 4 (spM K 2 S__law_near_group) := by
  refine ok_M F sc__law_near_group bs__law_near_group (j__law_near_group B O1 O2 O3) fun l ms ds Q _ h => ?_
  obtain ⟨rs, rfl, hr, hm, h⟩ := h
  have r1 := hr.pos
  have r2 := hr.most
  unfold g__law_near_group
  walk_at "dd"
  refine ⟨_, rfl, by decide, by decide, hm, fun way ms1 w0 w1 hm1 => ?_⟩
  try walk_at "dd"
  refine ⟨rfl, rfl, ?_⟩
  by_cases z : way = 0
  · rw [if_pos (by simp [PyData.eqv, z])]
    refine wpLc_all (fun d => ∃ r : List Int, d = tI r ∧ r.length = rs.length ∧ ∀ x, x ∈ r → 0 ≤ x ∧ x < rs.length) (fun ρ => ∃ ms', ρ = [some (.ow (.par l (.lst ms'))), some (.im (tR rs)), some (.im (.int rs.length)), some (.im (tR rs)), some (.im (.int way)), none, none, none, none] ∧ Dc ms') ⟨_, rfl, hm1⟩ (by simp; omega) (fun d hd ρ K i k => ?_) (fun _ => rfl) (fun acc ρ al ag i => ?_)
    · obtain ⟨ms2, rfl, hm2⟩ := i
      try walk_at "dd"
      refine wpLc_all (fun d => ∃ x : Int, d = .int x ∧ 0 ≤ x ∧ x < rs.length) (fun ρ => ∃ ms', ρ = [some (.ow (.par l (.lst ms'))), some (.im (tR rs)), some (.im (.int rs.length)), some (.im (tR rs)), some (.im (.int way)), none, none, some (.im d), none] ∧ Dc ms') ⟨_, rfl, hm2⟩ (by simp; omega) (fun d2 hd ρ K i k => ?_) (fun _ => rfl) (fun acc ρ al ag i => ?_)
      · obtain ⟨ms3, rfl, hm3⟩ := i
        try walk_at "dd"
        exact ⟨_, rfl, by omega, by simp only [T60]; omega, hm3, fun r ms' q0 q1 hm' => k _ _ ⟨r, rfl, q0, q1⟩ ⟨_, rfl, hm'⟩⟩
      · obtain ⟨ms3, rfl, hm3⟩ := i
        obtain ⟨C, rfl, hC⟩ := all_map ag
        try walk_at "dd"
        exact k _ _ ⟨C, rfl, by simpa using al, hC⟩ ⟨_, rfl, hm3⟩
    · obtain ⟨ms2, rfl, hm2⟩ := i
      obtain ⟨C, rfl, hC⟩ := all_map ag
      have cl : C.length = rs.length := by simpa using al
      try walk_at "dd"
      exact ⟨_, rfl, h C _ ⟨by omega, by omega, fun r hr => by rw [cl]; exact hC r hr⟩ hm2⟩
  · rw [if_neg (by simp [PyData.eqv, z])]
    refine ⟨rfl, rfl, ?_⟩
    by_cases z1 : way = 1
    · rw [if_pos (by simp [PyData.eqv, z1])]
      refine ⟨rs.length, rfl, by omega, hm1, fun m ms2 hp hm2 => ?_⟩
      have ml : m.length = rs.length := by rw [hp.length_eq, rgI_len]
      try walk_at "dd"
      refine wpLc_mapL m PyData.int (fun a => tI (rs.getD a.toNat [])) (by omega) rfl (fun a ha K hK => ?_) (fun _ => rfl) ?_
      · obtain ⟨a0, a1⟩ := mem_rgI.mp (hp.mem_iff.mp ha)
        try walk_at "dd"
        exact ixR a0 a1 (hK _ rfl)
      · try walk_at "dd"
        rw [show (PyData.tuple (m.map fun a => tI (rs.getD a.toNat []))) = tR (m.map fun a => rs.getD a.toNat []) from by unfold tR; simp only [List.map_map, Function.comp_def]]
        refine ⟨_, rfl, h _ _ ⟨by simp; omega, by simp; omega, fun r hr' => ?_⟩ hm2⟩
        obtain ⟨a, ha, rfl⟩ := List.mem_map.mp hr'
        obtain ⟨a0, a1⟩ := mem_rgI.mp (hp.mem_iff.mp ha)
        have := hr.row _ (getD_mem (d := []) (show a.toNat < rs.length by omega))
        simpa [ml] using this
    · rw [if_neg (by simp [PyData.eqv, z1])]
      refine ⟨⟨by omega, by omega, by omega, by omega⟩, ?_⟩
      refine wpFor_inv (fun ρ => ∃ ms' C x, ρ = [some (.ow (.par l (.lst ms'))), some (.im (tR rs)), some (.im (.int rs.length)), some (.im (tR C)), some (.im (.int way)), none, x, none, none] ∧ Dc ms' ∧ Rw C ∧ C.length = rs.length) ⟨_, _, _, rfl, hm1, hr, rfl⟩ (fun d hd ρ K i k => ?_) (fun ρ i => ?_)
      · obtain ⟨ms2, C, x, rfl, hm2, hC, cl⟩ := i
        try walk_at "dd"
        refine ⟨_, rfl, by omega, by simp only [T60]; omega, hm2, fun a ms3 a0 a1 hm3 => ?_⟩
        try walk_at "dd"
        refine ⟨_, rfl, by omega, by simp only [T60]; omega, hm3, fun b ms4 b0 b1 hm4 => ?_⟩
        try walk_at "dd"
        refine ⟨_, rfl, by omega, by simp only [T60]; omega, hm4, fun v ms5 v0 v1 hm5 => ?_⟩
        try walk_at "dd"
        exact ⟨C, a, b, v, rfl, hC, by rw [cl]; exact ⟨a0, a1⟩, by rw [cl]; exact ⟨b0, b1⟩, by rw [cl]; exact ⟨v0, v1⟩, fun C2 hC2 cl2 => k _ ⟨_, _, _, rfl, hm5, hC2, by omega⟩⟩
      · obtain ⟨ms2, C, x, rfl, hm2, hC, cl⟩ := i
        try walk_at "dd"
        exact ⟨_, rfl, h C _ hC hm2⟩
end
end Dn
set_option Elab.async false
set_option linter.all false
set_option maxRecDepth 100000
set_option autoImplicit false
set_option maxHeartbeats 4000000
namespace Dn
open PySem L2 Evl PySem.Spec PyProof.Rows
local macro_rules | `(tactic| walk_at "dd") => `(tactic| simp only [sSeq, sIf, sSet, sRet, sRetN, sNx, sEx, sAsg, sPar, dTOr, dTAnd, dTNot, dTst, dIsi, dVar, dC, dBin, dChain, dNeg, dI2, dAnd, dOr, dNot, dIfE, dCall, dCallF, aCons, aNil, dTup, lLst, dOfL, xIm, xOw, gNm, gTp, gsCons, gsNil, dYes, envD, dLen_tR, dLen_tI, dLen_tup, dLen_lst, seq_tR, seq_tI, seq_tup, seq_lst, dIs, dIsNot, dNe, dEq, dTupOf, dSl, oNone, oSome, iSq, iEn, iR1, iR2, sFor, lLc, sNever, dTRg, rg1, rg2, lRg, wipeD, optD,
  dIxP, sSub, dApp, dPopAt, dExt, dCallM, dCallO, dBinO, dTupO, lOf, lOfO, sRetO, iOw, dVarF, lCat, lCall, dAbs, dMax2, dMin2, dInt, atO, setO, MO.getL, MO.putL, Option.isSome_some,
  kit_int, kit_bool, kit_tuple, kit_str, List.map_cons, List.map_nil, List.cons_append, List.nil_append, List.replicate, List.set_cons_zero, List.set_cons_succ, List.getElem?_cons_zero, List.getElem?_cons_succ, List.length_cons, List.length_nil, List.length_map, Nat.reduceAdd, Nat.reduceSub, Bool.not_true, Bool.not_false, Bool.false_eq_true, if_true, if_false, true_and, reduceCtorEq, Bool.true_eq_false, rgD_rgI, Option.some.injEq, exists_eq_left', and_true])
section
variable {P : Program} {w : World} {K : PySem.W.Frag} {mg : Str → Option Value} {base : Heap}

theorem ok_papers (F : Is K mg "_law_papers" st__law_papers) (B : Bl mg) (O1 : Ok P w K mg base "_law_roll" P__law_roll 1 (spM K 2 S__law_roll)) : Ok P w K mg base "_law_papers" P__law_papers 2 (spM K 2 S__law_papers) := by
  refine ok_M F sc__law_papers bs__law_papers (j__law_papers B O1) fun l ms ds Q _ h => ?_
  obtain ⟨n, rfl, n1, n2, hm, h⟩ := h
  unfold g__law_papers
  walk_at "dd"
  refine ⟨by decide, by decide, by decide, rgd (by omega), ?_⟩
  refine wpLc_mapL (rgI n) PyData.int (fun a => .tuple [.str "back", .int a]) (by rw [rgI_len]; omega) rfl (fun a ha K hK => ?_) (fun _ => rfl) ?_
  · try walk_at "dd"
    exact ⟨by decide, hK _ rfl⟩
  · refine ⟨_, _, rfl, rfl, by simp [rgI_len]; omega, ⟨by decide, by decide, by decide, by decide⟩, ?_⟩
    refine wpFor_cps (fun done ρ => ∃ ms' ps x, ρ = [some (.ow (.par l (.lst ms'))), some (.im (.int n)), some (.ow (.lst ps)), x, none] ∧ Dc ms' ∧ (∀ p, p ∈ ps → PGood n p) ∧ ps.length ≤ 100 + done.length) ⟨_, _, _, rfl, hm, ?_, by simp [rgI_len]; omega⟩ (fun done d rest ρ K e p k => ?_) (fun ρ p => ?_)
    · intro p hp
      simp only [List.mem_append, List.mem_cons, List.not_mem_nil, or_false, List.mem_map] at hp
      rcases hp with (rfl | rfl) | ⟨a, ha, rfl⟩
      · exact .inl rfl
      · exact .inr (.inl rfl)
      · exact .inr (.inr (.inl ⟨a, rfl, (mem_rgI.mp ha).1, (mem_rgI.mp ha).2⟩))
    · obtain ⟨ms2, ps, x, rfl, hm2, hg, pl⟩ := p
      have el := congrArg List.length e
      simp [rgD_len] at el
      try walk_at "dd"
      refine ⟨_, rfl, by omega, by simp only [T60]; omega, hm2, fun a ms3 a0 a1 hm3 => ?_⟩
      try walk_at "dd"
      refine ⟨_, rfl, by omega, by simp only [T60]; omega, hm3, fun b ms4 b0 b1 hm4 => ?_⟩
      try walk_at "dd"
      refine ⟨_, rfl, by omega, by simp only [T60]; omega, hm4, fun c ms5 c0 c1 hm5 => ?_⟩
      try walk_at "dd"
      refine ⟨by decide, by omega, k _ ⟨_, _, _, rfl, hm5, fun p hp => ?_, by simp; omega⟩⟩
      rcases List.mem_append.mp hp with hp | hp
      · exact hg p hp
      · rw [List.mem_singleton.mp hp]
        exact .inr (.inr (.inr ⟨a, b, c, rfl, ⟨a0, a1⟩, ⟨b0, b1⟩, c0, c1⟩))
    · obtain ⟨ms2, ps, x, rfl, hm2, hg, pl⟩ := p
      simp [rgD_len] at pl
      try walk_at "dd"
      exact ⟨_, rfl, h ps _ hg (by omega) hm2⟩
end
end Dn
set_option Elab.async false
set_option linter.all false
set_option maxRecDepth 100000
set_option autoImplicit false
set_option maxHeartbeats 4000000
namespace Dn
open PySem L2 Evl PySem.Spec PyProof.Rows
local macro_rules | `(tactic| walk_at "dd") => `(tactic| simp only [sSeq, sIf, sSet, sRet, sRetN, sNx, sEx, sAsg, sPar, dTOr, dTAnd, dTNot, dTst, dIsi, dVar, dC, dBin, dChain, dNeg, dI2, dAnd, dOr, dNot, dIfE, dCall, dCallF, aCons, aNil, dTup, lLst, dOfL, xIm, xOw, gNm, gTp, gsCons, gsNil, dYes, envD, dLen_tR, dLen_tI, dLen_tup, dLen_lst, seq_tR, seq_tI, seq_tup, seq_lst, dIs, dIsNot, dNe, dEq, dTupOf, dSl, oNone, oSome, iSq, iEn, iR1, iR2, sFor, lLc, sNever, dTRg, rg1, rg2, lRg, wipeD, optD,
  dIxP, sSub, dApp, dPopAt, dExt, dCallM, dCallO, dBinO, dTupO, lOf, lOfO, sRetO, iOw, dVarF, lCat, lCall, dAbs, dMax2, dMin2, dInt, atO, setO, MO.getL, MO.putL, Option.isSome_some,
  kit_int, kit_bool, kit_tuple, kit_str, List.map_cons, List.map_nil, List.cons_append, List.nil_append, List.replicate, List.set_cons_zero, List.set_cons_succ, List.getElem?_cons_zero, List.getElem?_cons_succ, List.length_cons, List.length_nil, List.length_map, Nat.reduceAdd, Nat.reduceSub, Bool.not_true, Bool.not_false, Bool.false_eq_true, if_true, if_false, true_and, reduceCtorEq, Bool.true_eq_false, rgD_rgI, Option.some.injEq, exists_eq_left', and_true])
section
variable {P : Program} {w : World} {K : PySem.W.Frag} {mg : Str → Option Value} {base : Heap}

def okSb : D → Bool
  | .str t => SeqAt.shaped (.str t)
  | _ => true
def okVb : D → Bool
  | .tuple xs => decide (xs.length ≤ 100000) && xs.all okSb
  | _ => true
theorem q_unit_three : ((("unit" : Str)) == ("three" : Str)) = false := by decide +kernel
theorem q_unit_back : ((("unit" : Str)) == ("back" : Str)) = false := by decide +kernel
theorem q_unit_unit : ((("unit" : Str)) == ("unit" : Str)) = true := by decide +kernel
theorem q_unit_group : ((("unit" : Str)) == ("group" : Str)) = false := by decide +kernel
theorem q_group_three : ((("group" : Str)) == ("three" : Str)) = false := by decide +kernel
theorem q_group_back : ((("group" : Str)) == ("back" : Str)) = false := by decide +kernel
theorem q_group_unit : ((("group" : Str)) == ("unit" : Str)) = false := by decide +kernel
theorem q_group_group : ((("group" : Str)) == ("group" : Str)) = true := by decide +kernel
theorem q_back_three : ((("back" : Str)) == ("three" : Str)) = false := by decide +kernel
theorem q_back_back : ((("back" : Str)) == ("back" : Str)) = true := by decide +kernel
theorem q_back_unit : ((("back" : Str)) == ("unit" : Str)) = false := by decide +kernel
theorem q_back_group : ((("back" : Str)) == ("group" : Str)) = false := by decide +kernel
theorem q_three_three : ((("three" : Str)) == ("three" : Str)) = true := by decide +kernel
theorem q_three_back : ((("three" : Str)) == ("back" : Str)) = false := by decide +kernel
theorem q_three_unit : ((("three" : Str)) == ("unit" : Str)) = false := by decide +kernel
theorem q_three_group : ((("three" : Str)) == ("group" : Str)) = false := by decide +kernel
theorem q_side_three : ((("side" : Str)) == ("three" : Str)) = false := by decide +kernel
theorem q_side_back : ((("side" : Str)) == ("back" : Str)) = false := by decide +kernel
theorem q_side_unit : ((("side" : Str)) == ("unit" : Str)) = false := by decide +kernel
theorem q_side_group : ((("side" : Str)) == ("group" : Str)) = false := by decide +kernel
theorem sh_unit : SeqAt.shaped (.str "unit") = true := by decide +kernel
theorem sh_group : SeqAt.shaped (.str "group") = true := by decide +kernel
theorem sh_back : SeqAt.shaped (.str "back") = true := by decide +kernel
theorem sh_three : SeqAt.shaped (.str "three") = true := by decide +kernel
theorem sh_side : SeqAt.shaped (.str "side") = true := by decide +kernel
theorem sh_0 : SeqAt.shaped (.str "0") = true := by decide +kernel
theorem okV_of {v : D} (h : okVb v = true) : okV v := by
  intro xs e
  subst e
  unfold okVb at h
  simp only [Bool.and_eq_true, decide_eq_true_eq, List.all_eq_true] at h
  exact ⟨h.1, fun x hx t e => by subst e; exact h.2 _ hx⟩
theorem ok_odd_values (F : Is K mg "_law_odd_values" st__law_odd_values) : Ok P w K mg base "_law_odd_values" P__law_odd_values 1 (spD K 1 S__law_odd_values) := by
  refine ok_D F sc__law_odd_values bs__law_odd_values j__law_odd_values fun ds Q _ h => ?_
  obtain ⟨n, rfl, n1, n2, h⟩ := h
  unfold g__law_odd_values
  repeat refine And.intro (Nat.le_of_ble_eq_true rfl) ?_
  refine h _ (fun v hv => ?_) ?_
  · simp only [List.mem_append, List.mem_cons, List.not_mem_nil, or_false] at hv
    refine ⟨okV_of ?_, fun rs _ e => ?_⟩
    · rcases hv with ((rfl | rfl | rfl | rfl | rfl | rfl | rfl | rfl | rfl | rfl) | (rfl | rfl | rfl | rfl | rfl | rfl | rfl)) | (rfl | rfl | rfl | rfl | rfl)
      all_goals simp [okVb, okSb, q_unit_three, q_unit_back, q_unit_unit, q_unit_group, q_group_three, q_group_back, q_group_unit, q_group_group, q_back_three, q_back_back, q_back_unit, q_back_group, q_three_three, q_three_back, q_three_unit, q_three_group, q_side_three, q_side_back, q_side_unit, q_side_group, sh_unit, sh_group, sh_back, sh_three, sh_side, sh_0]
    · subst e
      rcases hv with ((rfl | rfl | rfl | rfl | rfl | rfl | rfl | rfl | rfl | rfl) | (rfl | rfl | rfl | rfl | rfl | rfl | rfl)) | (rfl | rfl | rfl | rfl | rfl)
      all_goals simp [isPaper, isTold, isTup1, isStr, isRow, isTh, q_unit_three, q_unit_back, q_unit_unit, q_unit_group, q_group_three, q_group_back, q_group_unit, q_group_group, q_back_three, q_back_back, q_back_unit, q_back_group, q_three_three, q_three_back, q_three_unit, q_three_group, q_side_three, q_side_back, q_side_unit, q_side_group, sh_unit, sh_group, sh_back, sh_three, sh_side, sh_0]
  · exact Nat.le_of_ble_eq_true rfl
end
end Dn
set_option Elab.async false
set_option linter.all false
set_option maxRecDepth 100000
set_option autoImplicit false
set_option maxHeartbeats 4000000
namespace Dn
open PySem L2 Evl PySem.Spec PyProof.Rows
local macro_rules | `(tactic| walk_at "dd") => `(tactic| simp only [sSeq, sIf, sSet, sRet, sRetN, sNx, sEx, sAsg, sPar, dTOr, dTAnd, dTNot, dTst, dIsi, dVar, dC, dBin, dChain, dNeg, dI2, dAnd, dOr, dNot, dIfE, dCall, dCallF, aCons, aNil, dTup, lLst, dOfL, xIm, xOw, gNm, gTp, gsCons, gsNil, dYes, envD, dLen_tR, dLen_tI, dLen_tup, dLen_lst, seq_tR, seq_tI, seq_tup, seq_lst, dIs, dIsNot, dNe, dEq, dTupOf, dSl, oNone, oSome, iSq, iEn, iR1, iR2, sFor, lLc, sNever, dTRg, rg1, rg2, lRg, wipeD, optD,
  dIxP, sSub, dApp, dPopAt, dExt, dCallM, dCallO, dBinO, dTupO, lOf, lOfO, sRetO, iOw, dVarF, lCat, lCall, dAbs, dMax2, dMin2, dInt, atO, setO, MO.getL, MO.putL, Option.isSome_some,
  kit_int, kit_bool, kit_tuple, kit_str, List.map_cons, List.map_nil, List.cons_append, List.nil_append, List.replicate, List.set_cons_zero, List.set_cons_succ, List.getElem?_cons_zero, List.getElem?_cons_succ, List.length_cons, List.length_nil, List.length_map, Nat.reduceAdd, Nat.reduceSub, Bool.not_true, Bool.not_false, Bool.false_eq_true, if_true, if_false, true_and, reduceCtorEq, Bool.true_eq_false, rgD_rgI, Option.some.injEq, exists_eq_left', and_true])
section
variable {P : Program} {w : World} {K : PySem.W.Frag} {mg : Str → Option Value} {base : Heap}

theorem ok_group_rows (F : Is K mg "_law_group_rows" st__law_group_rows) (B : Bl mg) (O1 : Ok P w K mg base "_law_cyclic" P__law_cyclic 1 (spD K 1 S__law_cyclic)) (O2 : Ok P w K mg base "_law_direct" P__law_direct 3 (spD K 2 S__law_direct)) (O3 : Ok P w K mg base "_law_turned_pairs" P__law_turned_pairs 1 (spD K 1 S__law_turned_pairs)) (O4 : Ok P w K mg base "_law_pick" P__law_pick 2 (spM K 2 S__law_pick)) (O5 : Ok P w K mg base "_law_renamed_group" P__law_renamed_group 2 (spD K 2 S__law_renamed_group)) (O6 : Ok P w K mg base "_law_drawn_move" P__law_drawn_move 3 (spM K 2 S__law_drawn_move)) :
    Ok P w K mg base "_law_group_rows" P__law_group_rows 4 (spM K 2 S__law_group_rows) := by
  refine ok_M F sc__law_group_rows bs__law_group_rows (j__law_group_rows B O1 O2 O3 O4 O5 O6) fun l ms ds Q _ h => ?_
  obtain ⟨rfl, hm, h⟩ := h
  unfold g__law_group_rows
  walk_at "dd"
  let G : D → Prop := fun d => ∃ C, d = tR C ∧ Rw C
  refine And.intro (⟨by decide, by decide, by decide, by decide⟩ : RgD 1 7) ?_
  refine wpLc_all G (fun ρ => ρ = [some (.ow (.par l (.lst ms))), some (.im (.int 6)), none, none, none, none, none]) rfl (by rw [rgD_len]; decide) (fun d hd ρ K i k => ?_) (fun _ => rfl) (fun acc ρ al ag i => ?_)
  · subst i
    obtain ⟨c, rfl, c0, c1⟩ := mem_rgD hd
    try walk_at "dd"
    exact ⟨c.toNat, by rw [show ((c.toNat : Nat) : Int) = c by omega], by omega, by omega, fun C hC _ => k _ _ ⟨C, rfl, hC⟩ rfl⟩
  · subst i
    rw [rgD_len] at al
    try walk_at "dd"
    refine ⟨6, rfl, by decide, by decide, fun C0 hC0 _ => ?_⟩
    refine ⟨by decide, _, _, rfl, rfl, by simp; omega, ?_⟩
    refine And.intro (cd_t (by decide) (by decide)) ?_
    refine And.intro (⟨by decide, by decide, by decide, by decide⟩ : RgD 2 4) ?_
    refine wpLc_all G (fun ρ => ρ = [some (.ow (.par l (.lst ms))), some (.im (.int 6)), some (.im (.list (acc ++ [tR C0]))), none, none, none, none]) rfl (by rw [rgD_len]; decide) (fun d hd ρ K i k => ?_) (fun _ => rfl) (fun acc2 ρ al2 ag2 i => ?_)
    · subst i
      obtain ⟨c, rfl, c0, c1⟩ := mem_rgD hd
      have c1 : c < 4 := c1
      try walk_at "dd"
      refine ⟨2, rfl, by decide, by decide, fun C1 hC1 l1 => ?_⟩
      try walk_at "dd"
      refine ⟨c.toNat, by rw [show ((c.toNat : Nat) : Int) = c by omega], by omega, by omega, fun C2 hC2 l2 => ?_⟩
      try walk_at "dd"
      exact ⟨C1, C2, rfl, hC1, hC2, by rw [l1, l2]; omega, fun C hC _ => k _ _ ⟨C, rfl, hC⟩ rfl⟩
    · subst i
      rw [rgD_len] at al2
      try walk_at "dd"
      refine ⟨_, _, rfl, rfl, by simp; omega, ?_⟩
      refine And.intro (cd_t (by decide) (by decide)) ?_
      refine And.intro (⟨by decide, by decide, by decide, by decide⟩ : RgD 3 4) ?_
      refine wpLc_all G (fun ρ => ρ = [some (.ow (.par l (.lst ms))), some (.im (.int 6)), some (.im (.list (acc ++ [tR C0] ++ acc2))), none, none, none, none]) rfl (by rw [rgD_len]; decide) (fun d hd ρ K i k => ?_) (fun _ => rfl) (fun acc3 ρ al3 ag3 i => ?_)
      · subst i
        obtain ⟨c, rfl, c0, c1⟩ := mem_rgD hd
        have c1 : c < 4 := c1
        try walk_at "dd"
        exact ⟨c.toNat, by rw [show ((c.toNat : Nat) : Int) = c by omega], by omega, by omega, fun C hC _ => k _ _ ⟨C, rfl, hC⟩ rfl⟩
      · subst i
        rw [rgD_len] at al3
        try walk_at "dd"
        refine ⟨_, _, rfl, rfl, by simp; omega, ?_⟩
        rw [if_neg (by decide), if_neg (by decide), if_neg (by decide)]
        refine ⟨_, acc ++ [tR C0] ++ acc2 ++ acc3, rfl, rfl, by simp, by simp; omega, hm, fun x ms2 hx hm2 => ?_⟩
        obtain ⟨C, rfl, hC⟩ : G x := by
          simp only [List.mem_append, List.mem_singleton] at hx
          rcases hx with ((hx | rfl) | hx) | hx
          · exact ag x hx
          · exact ⟨C0, rfl, hC0⟩
          · exact ag2 x hx
          · exact ag3 x hx
        try walk_at "dd"
        have m1 := hC.most
        refine ⟨C.length, rfl, by omega, hm2, fun m ms3 hp hm3 => ?_⟩
        exact ⟨C, m, rfl, hC, hp, fun C2 hC2 _ => ⟨_, rfl, h C2 _ hC2 hm3⟩⟩
end
end Dn
set_option Elab.async false
set_option linter.all false
set_option maxRecDepth 100000
set_option autoImplicit false
set_option maxHeartbeats 4000000
namespace Dn
open PySem L2 Evl PySem.Spec PyProof.Rows
local macro_rules | `(tactic| walk_at "dd") => `(tactic| simp only [sSeq, sIf, sSet, sRet, sRetN, sNx, sEx, sAsg, sPar, dTOr, dTAnd, dTNot, dTst, dIsi, dVar, dC, dBin, dChain, dNeg, dI2, dAnd, dOr, dNot, dIfE, dCall, dCallF, aCons, aNil, dTup, lLst, dOfL, xIm, xOw, gNm, gTp, gsCons, gsNil, dYes, envD, dLen_tR, dLen_tI, dLen_tup, dLen_lst, seq_tR, seq_tI, seq_tup, seq_lst, dIs, dIsNot, dNe, dEq, dTupOf, dSl, oNone, oSome, iSq, iEn, iR1, iR2, sFor, lLc, sNever, dTRg, rg1, rg2, lRg, wipeD, optD,
  dIxP, sSub, dApp, dPopAt, dExt, dCallM, dCallO, dBinO, dTupO, lOf, lOfO, sRetO, iOw, dVarF, lCat, lCall, dAbs, dMax2, dMin2, dInt, atO, setO, MO.getL, MO.putL, Option.isSome_some,
  kit_int, kit_bool, kit_tuple, kit_str, List.map_cons, List.map_nil, List.cons_append, List.nil_append, List.replicate, List.set_cons_zero, List.set_cons_succ, List.getElem?_cons_zero, List.getElem?_cons_succ, List.length_cons, List.length_nil, List.length_map, Nat.reduceAdd, Nat.reduceSub, Bool.not_true, Bool.not_false, Bool.false_eq_true, if_true, if_false, true_and, reduceCtorEq, Bool.true_eq_false, rgD_rgI, Option.some.injEq, exists_eq_left', and_true])
section
variable {P : Program} {w : World} {K : PySem.W.Frag} {mg : Str → Option Value} {base : Heap}

theorem eq_rgI {l : List Int} {n : Nat} (hl : l.length = n) : l = rgI n ↔ ∀ a : Int, a ∈ rgI n → l.getD a.toNat 0 = a := by
  constructor
  · rintro rfl a ha
    obtain ⟨a0, a1⟩ := mem_rgI.mp ha
    have := rgI_get (n := n) (k := a.toNat) (by omega)
    simp [List.getD, this]
    omega
  · intro h
    apply List.ext_getElem?
    intro i
    rcases Nat.lt_or_ge i n with z | z
    · have h1 := h (i : Int) (mem_rgI.mpr ⟨by omega, by omega⟩)
      rw [rgI_get z]
      have : l[i]? = some l[i] := List.getElem?_eq_getElem (by omega)
      simp [List.getD, this] at h1
      rw [this, h1]
    · rw [List.getElem?_eq_none (by omega), List.getElem?_eq_none (by rw [rgI_len]; omega)]
theorem unit_all {rs : List (List Int)} (hr : Rw rs) {e : Int} (e0 : 0 ≤ e) (e1 : e < rs.length) : isUnit rs e = (rgI rs.length).all fun a => decide (rc rs e a = a) && decide (rc rs a e = a) := by
  unfold isUnit
  have h1 := eq_rgI (hr.len e0 e1)
  have h2 := eq_rgI (l := rs.map fun r => r.getD e.toNat 0) (n := rs.length) (by simp)
  have e3 : ∀ a : Int, a ∈ rgI rs.length → (rs.map fun r => r.getD e.toNat 0).getD a.toNat 0 = rc rs a e := fun a ha => by
    obtain ⟨a0, a1⟩ := mem_rgI.mp ha
    have : a.toNat < rs.length := by omega
    unfold rc
    simp [List.getD, List.getElem?_eq_getElem this]
  rw [Bool.eq_iff_iff]
  simp only [Bool.and_eq_true, decide_eq_true_eq, List.all_eq_true]
  rw [h1, h2]
  constructor
  · rintro ⟨p, q⟩ a ha
    exact ⟨p a ha, by rw [← e3 a ha]; exact q a ha⟩
  · intro p
    exact ⟨fun a ha => (p a ha).1, fun a ha => by rw [e3 a ha]; exact (p a ha).2⟩
theorem shaped_lI (l : List Int) : SeqAt.shaped (.list (l.map PyData.int)) = true := by
  unfold SeqAt.shaped; simp [PyData.canLay0, PyData.depth, layAll_int l]
theorem eqv_lI (a b : List Int) : PyData.eqv (.list (a.map PyData.int)) (.list (b.map PyData.int)) = decide (a = b) := by simp only [PyData.eqv, eqvAll_int]
theorem find_any {α : Type} (p : α → Bool) : ∀ l : List α, (l.find? p).isNone = !(l.any p)
  | [] => rfl
  | x :: l => by
    rw [List.find?_cons, List.any_cons]
    cases p x with
    | true => rfl
    | false => simpa using find_any p l
/-- the units, as a list -/
def units (rs : List (List Int)) : List Int := (rgI rs.length).filter (isUnit rs)
theorem units_head (rs : List (List Int)) : unitOf rs = (units rs).head? := by unfold unitOf units; rw [List.head?_filter]
theorem eqv_int (i j : Int) : (PyData.int i).eqv (.int j) = decide (i = j) := by
  simp only [PyData.eqv]
  by_cases z : i = j <;> simp [z]
theorem all_id {α : Type} (p : α → Bool) (l : List α) : (l.map p).all id = l.all p := by simp [List.all_map]
theorem any_id {α : Type} (p : α → Bool) (l : List α) : (l.map p).any id = l.any p := by simp [List.any_map]
def th3 : D → D := fun d => match d with
  | .tuple t => .tuple (.str "three" :: t)
  | d => d
theorem map_fs {α β γ : Type} (f : α → Option β) (g : β → γ) : ∀ l : List α, (l.findSome? f).map g = l.findSome? fun x => (f x).map g
  | [] => rfl
  | x :: l => by
    rw [List.findSome?_cons, List.findSome?_cons]
    cases h : f x with
    | some y => rfl
    | none => simpa using map_fs f g l
theorem three_shape {rs : List (List Int)} {t : D} (ht : threeOf rs = some t) : ∃ a b c, t = .tuple [.int a, .int b, .int c] := by
  unfold threeOf at ht
  obtain ⟨a, _, ht⟩ := List.exists_of_findSome?_eq_some ht
  obtain ⟨b, _, ht⟩ := List.exists_of_findSome?_eq_some ht
  obtain ⟨c, _, ht⟩ := List.exists_of_findSome?_eq_some ht
  split at ht
  · cases ht; exact ⟨a, b, c, rfl⟩
  · cases ht
theorem ok_group_fault (F : Is K mg "_law_group_fault" st__law_group_fault) (B : Bl mg) : Ok P w K mg base "_law_group_fault" P__law_group_fault 1 (spD K 1 S__law_group_fault) := by
  refine ok_D F sc__law_group_fault bs__law_group_fault (j__law_group_fault B) fun ds Q _ h => ?_
  obtain ⟨rs, rfl, hr, h⟩ := h
  have r1 := hr.pos
  have r2 := hr.most
  unfold g__law_group_fault
  walk_at "dd"
  refine ⟨rgd (by omega), ?_⟩
  refine wpLc_filL (rgI rs.length) PyData.int PyData.int (isUnit rs) (by rw [rgI_len]; omega) rfl (fun e he K N hK hN => ?_) ?_
  · obtain ⟨e0, e1⟩ := mem_rgI.mp he
    try walk_at "dd"
    refine wpLc_mapL (rgI rs.length) PyData.int (fun a => .bool (decide (rc rs e a = a) && decide (rc rs a e = a))) (by rw [rgI_len]; omega) rfl (fun a ha K hK => ?_) (fun _ => rfl) ?_
    · obtain ⟨a0, a1⟩ := mem_rgI.mp ha
      try walk_at "dd"
      refine ixRC hr e0 e1 a0 a1 ⟨rfl, rfl, ?_⟩
      rw [eqv_int]
      by_cases z : rc rs e a = a
      · rw [show decide (rc rs e a = a) = true from decide_eq_true z] at hK ⊢
        refine ixRC hr a0 a1 e0 e1 ⟨rfl, rfl, ?_⟩
        rw [eqv_int]
        exact hK _ rfl
      · rw [show decide (rc rs e a = a) = false from decide_eq_false z] at hK ⊢
        exact hK _ rfl
    · try walk_at "dd"
      refine ⟨(rgI rs.length).map fun a => decide (rc rs e a = a) && decide (rc rs a e = a), by rw [List.map_map]; rfl, ?_⟩
      dsimp only
      rw [all_id, ← unit_all hr e0 e1]
      exact ite_ways (fun z => hK z _ rfl) (fun z => hN z _ rfl)
  · try walk_at "dd"
    refine ⟨by decide, shaped_lI _, shaped_lI [], ?_⟩
    rw [show PyData.list [] = .list (([] : List Int).map PyData.int) from rfl, eqv_lI]
    rw [show (rgI rs.length).filter (isUnit rs) = units rs from rfl]
    have hu := units_head rs
    unfold faultOf at h
    cases hus : units rs with
    | nil =>
      rw [hus] at hu
      rw [hu] at h
      exact ⟨by decide, h⟩
    | cons u t =>
      rw [hus] at hu
      rw [hu] at h
      dsimp only [List.head?] at h
      rw [if_neg (by simp)]
      refine wpFor_fs (rgI rs.length) PyData.int (fun a => if (backOf rs u a).isNone = true then some (.tuple [.str "back", .int a]) else none) (fun ρ => ∃ x3 x4 x5 x6, ρ = [some (.im (tR rs)), some (.im (.list ((rgI rs.length).map PyData.int))), some (.im (.list ((u :: t).map PyData.int))), x3, x4, x5, x6]) ⟨_, _, _, _, rfl⟩ (fun a ha ρ K B hI hq hk => ?_) (fun v hv => ?_) (fun hn ρ hI => ?_)
      · obtain ⟨x3, x4, x5, x6, rfl⟩ := hI
        obtain ⟨a0, a1⟩ := mem_rgI.mp ha
        try walk_at "dd"
        refine wpLc_mapL (rgI rs.length) PyData.int (fun b => .bool (decide (rc rs a b = u) && decide (rc rs b a = u))) (by rw [rgI_len]; omega) rfl (fun b hb K hK => ?_) (fun _ => rfl) ?_
        · obtain ⟨b0, b1⟩ := mem_rgI.mp hb
          try walk_at "dd"
          refine ixRC hr a0 a1 b0 b1 ⟨.int u, atI_zero, rfl, rfl, ?_⟩
          rw [eqv_int]
          by_cases z : rc rs a b = u
          · rw [show decide (rc rs a b = u) = true from decide_eq_true z] at hK ⊢
            refine ixRC hr b0 b1 a0 a1 ⟨.int u, atI_zero, rfl, rfl, ?_⟩
            rw [eqv_int]
            exact hK _ rfl
          · rw [show decide (rc rs a b = u) = false from decide_eq_false z] at hK ⊢
            exact hK _ rfl
        · try walk_at "dd"
          refine ⟨(rgI rs.length).map fun b => decide (rc rs a b = u) && decide (rc rs b a = u), by rw [List.map_map]; rfl, ?_⟩
          dsimp only
          rw [any_id]
          have bn : (backOf rs u a).isNone = !((rgI rs.length).any fun b => decide (rc rs a b = u) && decide (rc rs b a = u)) := find_any _ _
          rw [← bn]
          refine ite_ways (fun z => ⟨by decide, hq _ (if_pos z)⟩) (fun z => hk (if_neg (by rw [z]; simp)) _ ⟨_, _, _, _, rfl⟩)
      · rw [noBack_fs] at hv
        cases hb : noBack rs u with
        | none => rw [hb] at hv; cases hv
        | some a =>
          rw [hb] at hv h
          cases hv
          exact h
      · rw [noBack_fs] at hn
        obtain ⟨x3, x4, x5, x6, rfl⟩ := hI
        have hb : noBack rs u = none := by simpa using hn
        rw [hb] at h
        dsimp only at h
        try walk_at "dd"
        let F3 : Int → Int → Int → Option D := fun a b c => if rc rs (rc rs a b) c ≠ rc rs a (rc rs b c) then some (.tuple [.int a, .int b, .int c]) else none
        have t3 : threeOf rs = (rgI rs.length).findSome? fun a => (rgI rs.length).findSome? fun b => (rgI rs.length).findSome? fun c => F3 a b c := rfl
        refine wpFor_fs (rgI rs.length) PyData.int (fun a => ((rgI rs.length).findSome? fun b => (rgI rs.length).findSome? fun c => F3 a b c).map th3) (fun ρ => ∃ x3 x4 x5, ρ = [some (.im (tR rs)), some (.im (.list ((rgI rs.length).map PyData.int))), some (.im (.list ((u :: t).map PyData.int))), x3, x4, x5, x6]) ⟨_, _, _, rfl⟩ (fun a ha ρ K B hI hq hk => ?_) (fun v hv => ?_) (fun hn ρ hI => ?_)
        · obtain ⟨x3, x4, x5, rfl⟩ := hI
          obtain ⟨a0, a1⟩ := mem_rgI.mp ha
          try walk_at "dd"
          rw [map_fs] at hq hk
          refine wpFor_fs (rgI rs.length) PyData.int (fun b => ((rgI rs.length).findSome? fun c => F3 a b c).map th3) (fun ρ => ∃ x4 x5, ρ = [some (.im (tR rs)), some (.im (.list ((rgI rs.length).map PyData.int))), some (.im (.list ((u :: t).map PyData.int))), some (.im (.int a)), x4, x5, x6]) ⟨_, _, rfl⟩ (fun b hb ρ K B hI hq hk => ?_) (fun v hv => hq v hv) (fun hn ρ hI => ?_)
          · obtain ⟨x4, x5, rfl⟩ := hI
            obtain ⟨b0, b1⟩ := mem_rgI.mp hb
            try walk_at "dd"
            rw [map_fs] at hq hk
            refine wpFor_fs (rgI rs.length) PyData.int (fun c => (F3 a b c).map th3) (fun ρ => ∃ x5, ρ = [some (.im (tR rs)), some (.im (.list ((rgI rs.length).map PyData.int))), some (.im (.list ((u :: t).map PyData.int))), some (.im (.int a)), some (.im (.int b)), x5, x6]) ⟨_, rfl⟩ (fun c hc ρ K B hI hq hk => ?_) (fun v hv => hq v hv) (fun hn ρ hI => ?_)
            · obtain ⟨x5, rfl⟩ := hI
              obtain ⟨c0, c1⟩ := mem_rgI.mp hc
              try walk_at "dd"
              obtain ⟨p0, p1⟩ := hr.rc a0 a1 b0 b1
              obtain ⟨q0, q1⟩ := hr.rc b0 b1 c0 c1
              refine ixRC hr a0 a1 b0 b1 (ixRC hr p0 p1 c0 c1 (ixR a0 a1 (ixRC hr b0 b1 c0 c1 (ixI q0 (by rw [hr.len a0 a1]; exact q1) ⟨rfl, rfl, ?_⟩))))
              rw [eqv_int]
              refine ite_ways (fun z => ⟨by decide, hq _ ?_⟩) (fun z => hk ?_ _ ⟨_, rfl⟩)
              · show (F3 a b c).map th3 = _
                rw [show F3 a b c = some (.tuple [.int a, .int b, .int c]) from if_pos (by simpa [rc] using z)]
                rfl
              · show (F3 a b c).map th3 = _
                rw [show F3 a b c = none from if_neg (by simpa [rc] using z)]
                rfl
            · obtain ⟨x5, rfl⟩ := hI
              exact hk hn _ ⟨_, _, rfl⟩
          · obtain ⟨x4, x5, rfl⟩ := hI
            exact hk hn _ ⟨_, _, _, rfl⟩
        · rw [← map_fs, ← t3] at hv
          cases ht : threeOf rs with
          | none => rw [ht] at hv; cases hv
          | some d =>
            obtain ⟨a, b, c, rfl⟩ := three_shape ht
            rw [ht] at hv h
            cases hv
            exact h
        · rw [← map_fs, ← t3] at hn
          have ht : threeOf rs = none := by simpa using hn
          rw [ht] at h
          obtain ⟨x3, x4, x5, rfl⟩ := hI
          try walk_at "dd"
          exact ⟨by decide, h⟩
end
end Dn
set_option Elab.async false
set_option linter.all false
set_option maxRecDepth 100000
set_option autoImplicit false
set_option maxHeartbeats 4000000
namespace Dn
open PySem L2 Evl PySem.Spec PyProof.Rows
local macro_rules | `(tactic| walk_at "dd") => `(tactic| simp only [sSeq, sIf, sSet, sRet, sRetN, sNx, sEx, sAsg, sPar, dTOr, dTAnd, dTNot, dTst, dIsi, dVar, dC, dBin, dChain, dNeg, dI2, dAnd, dOr, dNot, dIfE, dCall, dCallF, aCons, aNil, dTup, lLst, dOfL, xIm, xOw, gNm, gTp, gsCons, gsNil, dYes, envD, dLen_tR, dLen_tI, dLen_tup, dLen_lst, seq_tR, seq_tI, seq_tup, seq_lst, dIs, dIsNot, dNe, dEq, dTupOf, dSl, oNone, oSome, iSq, iEn, iR1, iR2, sFor, lLc, sNever, dTRg, rg1, rg2, lRg, wipeD, optD,
  dIxP, sSub, dApp, dPopAt, dExt, dCallM, dCallO, dBinO, dTupO, lOf, lOfO, sRetO, iOw, dVarF, lCat, lCall, dAbs, dMax2, dMin2, dInt, atO, setO, MO.getL, MO.putL, Option.isSome_some,
  kit_int, kit_bool, kit_tuple, kit_str, List.map_cons, List.map_nil, List.cons_append, List.nil_append, List.replicate, List.set_cons_zero, List.set_cons_succ, List.getElem?_cons_zero, List.getElem?_cons_succ, List.length_cons, List.length_nil, List.length_map, Nat.reduceAdd, Nat.reduceSub, Bool.not_true, Bool.not_false, Bool.false_eq_true, if_true, if_false, true_and, reduceCtorEq, Bool.true_eq_false, rgD_rgI, Option.some.injEq, exists_eq_left', and_true])
section
variable {P : Program} {w : World} {K : PySem.W.Frag} {mg : Str → Option Value} {base : Heap}

theorem eqv_str_ne : True := trivial
theorem q1_ug : PyData.eqv (.str "unit") (.str "group") = false := by decide +kernel
theorem q1_gg : PyData.eqv (.str "group") (.str "group") = true := by decide +kernel
theorem q1_bg : PyData.eqv (.str "back") (.str "group") = false := by decide +kernel
theorem q1_tg : PyData.eqv (.str "three") (.str "group") = false := by decide +kernel
theorem q1_uu : PyData.eqv (.str "unit") (.str "unit") = true := by decide +kernel
theorem q1_bu : PyData.eqv (.str "back") (.str "unit") = false := by decide +kernel
theorem q1_tu : PyData.eqv (.str "three") (.str "unit") = false := by decide +kernel
theorem q1_bb : PyData.eqv (.str "back") (.str "back") = true := by decide +kernel
theorem q1_tb : PyData.eqv (.str "three") (.str "back") = false := by decide +kernel
theorem p_unit (rs : List (List Int)) : isPaper rs (.tuple [.str "unit"]) = (unitOf rs).isNone := by
  simp [isPaper, isTold, isTup1, isStr, q_unit_three, q_unit_back, q_unit_unit]
theorem p_group (rs : List (List Int)) : isPaper rs (.tuple [.str "group"]) = isGrp rs := by
  simp [isPaper, isTold, isTup1, isStr, q_group_three, q_group_back, q_group_unit, q_group_group]
theorem p_back {rs : List (List Int)} {a : Int} (a0 : 0 ≤ a) (a1 : a < rs.length) (h : rs.length ≤ 24) : isPaper rs (.tuple [.str "back", .int a]) = match unitOf rs with | some u => (backOf rs u a).isNone | none => false := by
  have e : isTold "back" 1 rs.length (.tuple [.str "back", .int a]) = true := by
    simp [isTold, isStr, isRow, isTh, q_back_back]; omega
  have e3 : isTold "three" 3 rs.length (.tuple [.str "back", .int a]) = false := by simp [isTold]
  unfold isPaper
  rw [if_neg (by rw [e3]; simp), if_pos e]
  cases unitOf rs <;> rfl
theorem p_three {rs : List (List Int)} {a b c : Int} (a0 : 0 ≤ a ∧ a < rs.length) (b0 : 0 ≤ b ∧ b < rs.length) (c0 : 0 ≤ c ∧ c < rs.length) (h : rs.length ≤ 24) : isPaper rs (.tuple [.str "three", .int a, .int b, .int c]) = decide (rc rs (rc rs a b) c ≠ rc rs a (rc rs b c)) := by
  have e : isTold "three" 3 rs.length (.tuple [.str "three", .int a, .int b, .int c]) = true := by
    simp [isTold, isStr, isRow, isTh, q_three_three]; omega
  unfold isPaper
  rw [if_pos e]
theorem ok_is_so (F : Is K mg "_law_is_so" st__law_is_so) (B : Bl mg) (O1 : Ok P w K mg base "_law_group_fault" P__law_group_fault 1 (spD K 1 S__law_group_fault)) : Ok P w K mg base "_law_is_so" P__law_is_so 2 (spD K 2 S__law_is_so) := by
  refine ok_D F sc__law_is_so bs__law_is_so (j__law_is_so B O1) fun ds Q _ h => ?_
  obtain ⟨rs, p, rfl, hr, hp, h⟩ := h
  have r1 := hr.pos
  have r2 := hr.most
  unfold g__law_is_so
  walk_at "dd"
  refine ⟨rgd (by omega), ?_⟩
  refine wpLc_filL (rgI rs.length) PyData.int PyData.int (isUnit rs) (by rw [rgI_len]; omega) rfl (fun e he K N hK hN => ?_) ?_
  · obtain ⟨e0, e1⟩ := mem_rgI.mp he
    try walk_at "dd"
    refine wpLc_mapL (rgI rs.length) PyData.int (fun a => .bool (decide (rc rs e a = a) && decide (rc rs a e = a))) (by rw [rgI_len]; omega) rfl (fun a ha K hK => ?_) (fun _ => rfl) ?_
    · obtain ⟨a0, a1⟩ := mem_rgI.mp ha
      try walk_at "dd"
      refine ixRC hr e0 e1 a0 a1 ⟨rfl, rfl, ?_⟩
      rw [eqv_int]
      by_cases z : rc rs e a = a
      · rw [show decide (rc rs e a = a) = true from decide_eq_true z] at hK ⊢
        refine ixRC hr a0 a1 e0 e1 ⟨rfl, rfl, ?_⟩
        rw [eqv_int]
        exact hK _ rfl
      · rw [show decide (rc rs e a = a) = false from decide_eq_false z] at hK ⊢
        exact hK _ rfl
    · try walk_at "dd"
      refine ⟨(rgI rs.length).map fun a => decide (rc rs e a = a) && decide (rc rs a e = a), by rw [List.map_map]; rfl, ?_⟩
      dsimp only
      rw [all_id, ← unit_all hr e0 e1]
      exact ite_ways (fun z => hK z _ rfl) (fun z => hN z _ rfl)
  · try walk_at "dd"
    rw [show (rgI rs.length).filter (isUnit rs) = units rs from rfl]
    have hu := units_head rs
    have en : ∀ l : List Int, PyData.eqv (.list (l.map PyData.int)) (.list []) = decide (l = []) := fun l => eqv_lI l []
    rcases hp with rfl | rfl | ⟨a, rfl, a0, a1⟩ | ⟨a, b, c, rfl, a0, b0, c0⟩
    · rw [p_unit] at h
      refine ⟨_, atI_zero, sh_unit, sh_group, ?_⟩
      rw [q1_ug]
      try dsimp only
      rw [if_neg (by simp)]
      refine ⟨_, atI_zero, sh_unit, sh_unit, ?_⟩
      rw [q1_uu]
      try dsimp only
      rw [if_pos rfl]
      refine ⟨by decide, shaped_lI _, shaped_lI [], ?_⟩
      rw [en, show decide (units rs = []) = (unitOf rs).isNone from by rw [hu]; cases units rs <;> simp]
      exact h
    · rw [p_group] at h
      refine ⟨_, atI_zero, sh_group, sh_group, ?_⟩
      rw [q1_gg]
      try dsimp only
      rw [if_pos rfl]
      exact ⟨rs, rfl, hr, by decide, (fault_grp rs).1, by decide +kernel, by rw [(fault_grp rs).2]; exact h⟩
    · rw [p_back a0 a1 r2] at h
      refine ⟨_, atI_zero, sh_back, sh_group, ?_⟩
      rw [q1_bg]
      try dsimp only
      rw [if_neg (by simp)]
      refine ⟨_, atI_zero, sh_back, sh_unit, ?_⟩
      rw [q1_bu]
      try dsimp only
      rw [if_neg (by simp)]
      refine ⟨_, atI_zero, sh_back, sh_back, ?_⟩
      rw [q1_bb]
      try dsimp only
      rw [if_pos rfl]
      refine ⟨.int a, rfl, ?_⟩
      try dsimp only
      cases hus : units rs with
      | nil =>
        rw [hus] at hu
        rw [hu] at h
        refine wpLc_filL (rgI rs.length) PyData.int PyData.int (fun _ => false) (by rw [rgI_len]; omega) rfl (fun b hb K N hK hN => ?_) ?_
        · try walk_at "dd"
          refine ⟨by decide, shaped_lI [], shaped_lI [], ?_⟩
          rw [show PyData.eqv (.list []) (.list []) = true from en []]
          exact hN rfl _ rfl
        · try walk_at "dd"
          refine ⟨by decide, shaped_lI [], shaped_lI [], ?_⟩
          rw [show PyData.eqv (.list []) (.list []) = true from en []]
          exact h
      | cons u t =>
        rw [hus] at hu
        rw [hu] at h
        have e1 : PyData.eqv (.list ((u :: t).map PyData.int)) (.list []) = false := by rw [en]; simp
        refine wpLc_filL (rgI rs.length) PyData.int PyData.int (fun b => decide (rc rs a b = u) && decide (rc rs b a = u)) (by rw [rgI_len]; omega) rfl (fun b hb K N hK hN => ?_) ?_
        · obtain ⟨b0, b1⟩ := mem_rgI.mp hb
          try walk_at "dd"
          refine ⟨by decide, shaped_lI (u :: t), shaped_lI [], ?_⟩
          rw [show PyData.eqv (.list (.int u :: t.map PyData.int)) (.list []) = false from e1]
          rw [if_pos (show (!false) = true from rfl)]
          refine ixRC hr a0 a1 b0 b1 ⟨.int u, atI_zero, rfl, rfl, ?_⟩
          rw [eqv_int]
          by_cases z : rc rs a b = u
          · rw [show decide (rc rs a b = u) = true from decide_eq_true z] at hK hN ⊢
            rw [if_pos rfl]
            refine ixRC hr b0 b1 a0 a1 ⟨.int u, atI_zero, rfl, rfl, ?_⟩
            rw [eqv_int]
            exact ite_ways (fun z => hK z _ rfl) (fun z => hN z _ rfl)
          · rw [show decide (rc rs a b = u) = false from decide_eq_false z] at hK hN ⊢
            rw [if_neg (by simp)]
            exact hN rfl _ rfl
        · try walk_at "dd"
          refine ⟨by decide, shaped_lI (u :: t), shaped_lI [], ?_⟩
          rw [show PyData.eqv (.list (.int u :: t.map PyData.int)) (.list []) = false from e1]
          refine ⟨by decide, shaped_lI _, shaped_lI [], ?_⟩
          rw [en]
          have bn : ∀ (l : List Int) (p : Int → Bool), decide (l.filter p = []) = (l.find? p).isNone := fun l p => by rw [← List.head?_filter]; cases l.filter p <;> simp
          rw [bn]
          exact h
    · rw [p_three a0 b0 c0 r2] at h
      refine ⟨_, atI_zero, sh_three, sh_group, ?_⟩
      rw [q1_tg]
      try dsimp only
      rw [if_neg (by simp)]
      refine ⟨_, atI_zero, sh_three, sh_unit, ?_⟩
      rw [q1_tu]
      try dsimp only
      rw [if_neg (by simp)]
      refine ⟨_, atI_zero, sh_three, sh_back, ?_⟩
      rw [q1_tb]
      try dsimp only
      rw [if_neg (by simp)]
      refine ⟨rfl, rfl, ?_⟩
      obtain ⟨p0, p1⟩ := hr.rc a0.1 a0.2 b0.1 b0.2
      obtain ⟨q0, q1⟩ := hr.rc b0.1 b0.2 c0.1 c0.2
      refine ixRC hr a0.1 a0.2 b0.1 b0.2 (ixRC hr p0 p1 c0.1 c0.2 (ixR a0.1 a0.2 (ixRC hr b0.1 b0.2 c0.1 c0.2 (ixI q0 (by rw [hr.len a0.1 a0.2]; exact q1) ⟨rfl, rfl, ?_⟩))))
      rw [eqv_int, show (!decide (rc rs (rc rs a b) c = (rs.getD a.toNat []).getD (rc rs b c).toNat 0)) = decide (rc rs (rc rs a b) c ≠ rc rs a (rc rs b c)) from by unfold rc; simp]
      exact h
end
end Dn
set_option Elab.async false
set_option linter.all false
set_option maxRecDepth 100000
set_option autoImplicit false
set_option maxHeartbeats 4000000
namespace Dn
open PySem L2 Evl PySem.Spec PyProof.Rows
local macro_rules | `(tactic| walk_at "dd") => `(tactic| simp only [sSeq, sIf, sSet, sRet, sRetN, sNx, sEx, sAsg, sPar, dTOr, dTAnd, dTNot, dTst, dIsi, dVar, dC, dBin, dChain, dNeg, dI2, dAnd, dOr, dNot, dIfE, dCall, dCallF, aCons, aNil, dTup, lLst, dOfL, xIm, xOw, gNm, gTp, gsCons, gsNil, dYes, envD, dLen_tR, dLen_tI, dLen_tup, dLen_lst, seq_tR, seq_tI, seq_tup, seq_lst, dIs, dIsNot, dNe, dEq, dTupOf, dSl, oNone, oSome, iSq, iEn, iR1, iR2, sFor, lLc, sNever, dTRg, rg1, rg2, lRg, wipeD, optD,
  dIxP, sSub, dApp, dPopAt, dExt, dCallM, dCallO, dBinO, dTupO, lOf, lOfO, sRetO, iOw, dVarF, lCat, lCall, dAbs, dMax2, dMin2, dInt, atO, setO, MO.getL, MO.putL, Option.isSome_some,
  kit_int, kit_bool, kit_tuple, kit_str, List.map_cons, List.map_nil, List.cons_append, List.nil_append, List.replicate, List.set_cons_zero, List.set_cons_succ, List.getElem?_cons_zero, List.getElem?_cons_succ, List.length_cons, List.length_nil, List.length_map, Nat.reduceAdd, Nat.reduceSub, Bool.not_true, Bool.not_false, Bool.false_eq_true, if_true, if_false, true_and, reduceCtorEq, Bool.true_eq_false, rgD_rgI, Option.some.injEq, exists_eq_left', and_true])
section
variable {P : Program} {w : World} {K : PySem.W.Frag} {mg : Str → Option Value} {base : Heap}

theorem pgood_ok {n : Int} {p : D} (h : PGood n p) : okV p := by
  rcases h with rfl | rfl | ⟨a, rfl, _⟩ | ⟨a, b, c, rfl, _⟩
  all_goals exact okV_of (by simp [okVb, okSb, sh_unit, sh_group, sh_back, sh_three])
theorem dLen_scr {s : List Int} {Q : D → Prop} : dLen [scr s] Q = Q (.int (s.map PyData.int).length) := rfl
theorem rg_six (n : Int) : RgD 0 (if (if n < 6 then n else 6) > 1 then (if n < 6 then n else 6) else 1) := by
  unfold RgD
  split <;> (try split) <;> omega
theorem rep_eq (b : Bool) {P1 P2 : Prop} (h : P2) : SeqAt.shaped (.str (if b then "True" else "False")) = true ∧ SeqAt.shaped (.str (if b then "True" else "False")) = true ∧ if (!PyData.eqv (.str (if b then "True" else "False")) (.str (if b then "True" else "False"))) = true then P1 else P2 := by
  cases b with
  | true => refine ⟨by decide +kernel, by decide +kernel, ?_⟩; rw [if_neg (by decide +kernel)]; exact h
  | false => refine ⟨by decide +kernel, by decide +kernel, ?_⟩; rw [if_neg (by decide +kernel)]; exact h
def one3 : List (List Int) := [[0, 1, 2], [1, 0, 1], [2, 2, 0]]
def one2 : List (List Int) := [[0, 1], [1, 1]]
theorem rw_one3 : Rw one3 := ⟨by decide, by decide, by decide⟩
theorem rw_one2 : Rw one2 := ⟨by decide, by decide, by decide⟩
theorem ok_law {f : Addr} {fd : FuncData} (F : FunD K "law" "law" (defArgs st_law) (defBody st_law) (defScope st_law) [] [] f fd) (B : Bl mg) (O1 : Ok P w K mg base "_law_dice" P__law_dice 1 (spL K 2 S__law_dice)) (O2 : Ok P w K mg base "_law_near_group" P__law_near_group 4 (spM K 2 S__law_near_group)) (O3 : Ok P w K mg base "_law_group_rows" P__law_group_rows 4 (spM K 2 S__law_group_rows)) (O4 : Ok P w K mg base "_law_papers" P__law_papers 2 (spM K 2 S__law_papers)) (O5 : Ok P w K mg base "_law_is_so" P__law_is_so 2 (spD K 2 S__law_is_so)) (O6 : Ok P w K mg base "is_group_paper" P_is_group_paper 5 (spD K 2 S_is_group_paper)) (O7 : Ok P w K mg base "_law_odd_values" P__law_odd_values 1 (spD K 1 S__law_odd_values)) :
    FnOk P w K mg base L2.CX0 6 f fd P_law (spD K 1 S_law) := by
  refine fn_D F sc_law (fun cdv A outer s H E hr => j_law B O1 O2 O3 O4 O5 O6 O7 f cdv A outer s H E hr) fun ds Q _ h => ?_
  obtain ⟨s, rfl, hs, h⟩ := h
  unfold g_law
  walk_at "dd"
  refine And.intro (rg_six _) ?_
  refine wpFor_inv (fun ρ => ∃ x1 x2 x3 x4 x5 x6 x7 x8, ρ = [some (.im (scr s)), x1, x2, x3, x4, x5, x6, x7, x8]) ⟨_, _, _, _, _, _, _, _, rfl⟩ (fun d hd ρ K i k => ?_) (fun ρ i => ?_)
  · obtain ⟨x1, x2, x3, x4, x5, x6, x7, x8, rfl⟩ := i
    obtain ⟨spot, rfl, s0, _⟩ := mem_rgD hd
    try walk_at "dd"
    refine ⟨s, spot, rfl, s0, fun ms hm => ?_⟩
    try walk_at "dd"
    refine ⟨rfl, hm, fun A ms2 hA hm2 => ?_⟩
    try walk_at "dd"
    refine ⟨A, rfl, hA, hm2, fun rs ms3 hr hm3 => ?_⟩
    have r1 := hr.pos
    have r2 := hr.most
    try walk_at "dd"
    refine ⟨rs.length, rfl, r1, r2, hm3, fun ps ms4 hg pl hm4 => ?_⟩
    try walk_at "dd"
    refine wpFor_inv (fun ρ => ∃ x, ρ = [some (.im (scr s)), some (.im (.int spot)), some (.ow (.lst ms4)), some (.im (tR rs)), x, x5, x6, x7, x8]) ⟨_, rfl⟩ (fun p hp ρ K i k => ?_) (fun ρ i => ?_)
    · obtain ⟨x, rfl⟩ := i
      try walk_at "dd"
      refine ⟨rs, p, rfl, hr, pgood_ok (hg p hp), ?_⟩
      try walk_at "dd"
      exact ⟨rs, p, rfl, hr, hg p hp, rep_eq _ (k _ ⟨_, rfl⟩)⟩
    · obtain ⟨x, rfl⟩ := i
      try walk_at "dd"
      refine ⟨rs.length, rfl, r1, r2, fun vs hv vl => ?_⟩
      try walk_at "dd"
      refine wpLc_map (fun _ => .bool true) (by omega) rfl (fun d hd K hK => ?_) (fun _ _ _ => rfl) ?_
      · try walk_at "dd"
        refine ⟨rs, d, rfl, hr, (hv d hd).1, ?_⟩
        rw [(hv d hd).2 rs hr rfl]
        exact hK _ rfl
      · try walk_at "dd"
        refine ⟨vs.map fun _ => true, by rw [List.map_map]; rfl, ?_⟩
        dsimp only
        rw [all_id, show (vs.all fun _ => true) = true from by simp]
        rw [if_neg (by decide)]
        exact k _ ⟨_, _, _, _, _, _, _, _, rfl⟩
  · obtain ⟨x1, x2, x3, x4, x5, x6, x7, x8, rfl⟩ := i
    try walk_at "dd"
    refine ⟨by decide, by decide, by decide, by decide, ⟨by decide, by decide, by decide, by decide⟩, ?_⟩
    rw [show rgD 0 3 = (rgI 3).map PyData.int from rgD_rgI 3]
    refine wpLc_mapL (rgI 3) PyData.int (fun a => .bool (isPaper one3 (.tuple [.str "three", .int a, .int 2, .int 1]))) (by decide) rfl (fun a ha K hK => ?_) (fun _ => rfl) ?_
    · try walk_at "dd"
      refine ⟨by decide, one3, _, rfl, rw_one3, okV_of ?_, hK _ rfl⟩
      simp [okVb, okSb, sh_three]
    · try walk_at "dd"
      have e0 : isPaper one3 (.tuple [.str "three", .int 0, .int 2, .int 1]) = false := by rw [p_three (by decide) (by decide) (by decide) (by decide)]; decide
      have e1 : isPaper one3 (.tuple [.str "three", .int 1, .int 2, .int 1]) = true := by rw [p_three (by decide) (by decide) (by decide) (by decide)]; decide
      have e2 : isPaper one3 (.tuple [.str "three", .int 2, .int 2, .int 1]) = true := by rw [p_three (by decide) (by decide) (by decide) (by decide)]; decide
      have e3 : isPaper one2 (.tuple [.str "back", .int 1]) = true := by rw [p_back (by decide) (by decide) (by decide)]; decide
      have em : (rgI 3).map (fun a => PyData.bool (isPaper one3 (.tuple [.str "three", .int a, .int 2, .int 1]))) = [.bool false, .bool true, .bool true] := by
        rw [show rgI 3 = [0, 1, 2] from by decide]
        simp only [List.map_cons, List.map_nil, e0, e1, e2]
      rw [em]
      refine ⟨by decide, by decide +kernel, by decide +kernel, ?_⟩
      rw [show PyData.eqv (.list [.bool false, .bool true, .bool true]) (.list [.bool false, .bool true, .bool true]) = true from by decide +kernel]
      refine ⟨by decide, by decide, by decide, by decide, one2, _, rfl, rw_one2, okV_of ?_, ?_⟩
      · simp [okVb, okSb, sh_back]
      · rw [e3]; exact h
end
end Dn
set_option Elab.async false
set_option linter.all false
set_option maxRecDepth 100000
set_option maxHeartbeats 0
namespace Hd
open PySem PySem.Spec PyProof.Rows L2
def top (i : Nat) : Stmt := PySem.Challenge.pw_truenames_k05_papers_about_groups_judged.main.body.getD i (.Pass ⟨0, 0, 0, 0⟩)
abbrev st_is_integer : Stmt := top 5
abbrev st_is_row : Stmt := top 6
abbrev st_is_square : Stmt := top 7
abbrev st_is_same : Stmt := top 8
abbrev st_is_told : Stmt := top 9
abbrev st_unit_of : Stmt := top 11
abbrev st_back_of : Stmt := top 12
abbrev st_broken_three : Stmt := top 13
abbrev st_group_paper : Stmt := top 16
abbrev st_is_group_paper : Stmt := top 17
abbrev st__check_rows : Stmt := top 18
abbrev st__law_dice : Stmt := top 20
abbrev st__law_roll : Stmt := top 21
abbrev st__law_pick : Stmt := top 22
abbrev st__law_mixed : Stmt := top 23
abbrev st__law_orders : Stmt := top 24
abbrev st__law_joined : Stmt := top 25
abbrev st__law_undone : Stmt := top 26
abbrev st__law_drawn_move : Stmt := top 27
abbrev st__law_places_of : Stmt := top 28
abbrev st__law_product_dots : Stmt := top 29
abbrev st__law_cyclic : Stmt := top 30
abbrev st__law_direct : Stmt := top 31
abbrev st__law_moves_rows : Stmt := top 32
abbrev st__law_turned_pairs : Stmt := top 33
abbrev st__law_quaternion_rows : Stmt := top 34
abbrev st__law_renamed_group : Stmt := top 35
abbrev st__law_group_rows : Stmt := top 36
abbrev st__law_falls : Stmt := top 37
abbrev st__law_group_fault : Stmt := top 38
abbrev st__law_with_entry : Stmt := top 39
abbrev st__law_near_group : Stmt := top 40
abbrev st__law_is_so : Stmt := top 41
abbrev st__law_papers : Stmt := top 42
abbrev st__law_odd_values : Stmt := top 43
abbrev st_law : Stmt := top 44
def dd_is_integer : He.DefD := ⟨("is_integer", none), "is_integer", "is_integer", defArgs st_is_integer, defBody st_is_integer, defScope st_is_integer, [], []⟩
def dd_is_row : He.DefD := ⟨("is_row", none), "is_row", "is_row", defArgs st_is_row, defBody st_is_row, defScope st_is_row, [], []⟩
def dd_is_square : He.DefD := ⟨("is_square", none), "is_square", "is_square", defArgs st_is_square, defBody st_is_square, defScope st_is_square, [], []⟩
def dd_is_same : He.DefD := ⟨("is_same", none), "is_same", "is_same", defArgs st_is_same, defBody st_is_same, defScope st_is_same, [], []⟩
def dd_is_told : He.DefD := ⟨("is_told", none), "is_told", "is_told", defArgs st_is_told, defBody st_is_told, defScope st_is_told, [], []⟩
def dd_unit_of : He.DefD := ⟨("unit_of", none), "unit_of", "unit_of", defArgs st_unit_of, defBody st_unit_of, defScope st_unit_of, [], []⟩
def dd_back_of : He.DefD := ⟨("back_of", none), "back_of", "back_of", defArgs st_back_of, defBody st_back_of, defScope st_back_of, [], []⟩
def dd_broken_three : He.DefD := ⟨("broken_three", none), "broken_three", "broken_three", defArgs st_broken_three, defBody st_broken_three, defScope st_broken_three, [], []⟩
def dd_group_paper : He.DefD := ⟨("group_paper", none), "group_paper", "group_paper", defArgs st_group_paper, defBody st_group_paper, defScope st_group_paper, [], []⟩
def dd_is_group_paper : He.DefD := ⟨("is_group_paper", none), "is_group_paper", "is_group_paper", defArgs st_is_group_paper, defBody st_is_group_paper, defScope st_is_group_paper, [], []⟩
def dd__check_rows : He.DefD := ⟨("_check_rows", none), "_check_rows", "_check_rows", defArgs st__check_rows, defBody st__check_rows, defScope st__check_rows, [], []⟩
def dd__law_dice : He.DefD := ⟨("_law_dice", none), "_law_dice", "_law_dice", defArgs st__law_dice, defBody st__law_dice, defScope st__law_dice, [], []⟩
def dd__law_roll : He.DefD := ⟨("_law_roll", none), "_law_roll", "_law_roll", defArgs st__law_roll, defBody st__law_roll, defScope st__law_roll, [], []⟩
def dd__law_pick : He.DefD := ⟨("_law_pick", none), "_law_pick", "_law_pick", defArgs st__law_pick, defBody st__law_pick, defScope st__law_pick, [], []⟩
def dd__law_mixed : He.DefD := ⟨("_law_mixed", none), "_law_mixed", "_law_mixed", defArgs st__law_mixed, defBody st__law_mixed, defScope st__law_mixed, [], []⟩
def dd__law_orders : He.DefD := ⟨("_law_orders", none), "_law_orders", "_law_orders", defArgs st__law_orders, defBody st__law_orders, defScope st__law_orders, [], []⟩
def dd__law_joined : He.DefD := ⟨("_law_joined", none), "_law_joined", "_law_joined", defArgs st__law_joined, defBody st__law_joined, defScope st__law_joined, [], []⟩
def dd__law_undone : He.DefD := ⟨("_law_undone", none), "_law_undone", "_law_undone", defArgs st__law_undone, defBody st__law_undone, defScope st__law_undone, [], []⟩
def dd__law_drawn_move : He.DefD := ⟨("_law_drawn_move", none), "_law_drawn_move", "_law_drawn_move", defArgs st__law_drawn_move, defBody st__law_drawn_move, defScope st__law_drawn_move, [], []⟩
def dd__law_places_of : He.DefD := ⟨("_law_places_of", none), "_law_places_of", "_law_places_of", defArgs st__law_places_of, defBody st__law_places_of, defScope st__law_places_of, [], []⟩
def dd__law_product_dots : He.DefD := ⟨("_law_product_dots", none), "_law_product_dots", "_law_product_dots", defArgs st__law_product_dots, defBody st__law_product_dots, defScope st__law_product_dots, [], []⟩
def dd__law_cyclic : He.DefD := ⟨("_law_cyclic", none), "_law_cyclic", "_law_cyclic", defArgs st__law_cyclic, defBody st__law_cyclic, defScope st__law_cyclic, [], []⟩
def dd__law_direct : He.DefD := ⟨("_law_direct", none), "_law_direct", "_law_direct", defArgs st__law_direct, defBody st__law_direct, defScope st__law_direct, [], []⟩
def dd__law_moves_rows : He.DefD := ⟨("_law_moves_rows", none), "_law_moves_rows", "_law_moves_rows", defArgs st__law_moves_rows, defBody st__law_moves_rows, defScope st__law_moves_rows, [], []⟩
def dd__law_turned_pairs : He.DefD := ⟨("_law_turned_pairs", none), "_law_turned_pairs", "_law_turned_pairs", defArgs st__law_turned_pairs, defBody st__law_turned_pairs, defScope st__law_turned_pairs, [], []⟩
def dd__law_quaternion_rows : He.DefD := ⟨("_law_quaternion_rows", none), "_law_quaternion_rows", "_law_quaternion_rows", defArgs st__law_quaternion_rows, defBody st__law_quaternion_rows, defScope st__law_quaternion_rows, [], []⟩
def dd__law_renamed_group : He.DefD := ⟨("_law_renamed_group", none), "_law_renamed_group", "_law_renamed_group", defArgs st__law_renamed_group, defBody st__law_renamed_group, defScope st__law_renamed_group, [], []⟩
def dd__law_group_rows : He.DefD := ⟨("_law_group_rows", none), "_law_group_rows", "_law_group_rows", defArgs st__law_group_rows, defBody st__law_group_rows, defScope st__law_group_rows, [], []⟩
def dd__law_falls : He.DefD := ⟨("_law_falls", none), "_law_falls", "_law_falls", defArgs st__law_falls, defBody st__law_falls, defScope st__law_falls, [], []⟩
def dd__law_group_fault : He.DefD := ⟨("_law_group_fault", none), "_law_group_fault", "_law_group_fault", defArgs st__law_group_fault, defBody st__law_group_fault, defScope st__law_group_fault, [], []⟩
def dd__law_with_entry : He.DefD := ⟨("_law_with_entry", none), "_law_with_entry", "_law_with_entry", defArgs st__law_with_entry, defBody st__law_with_entry, defScope st__law_with_entry, [], []⟩
def dd__law_near_group : He.DefD := ⟨("_law_near_group", none), "_law_near_group", "_law_near_group", defArgs st__law_near_group, defBody st__law_near_group, defScope st__law_near_group, [], []⟩
def dd__law_is_so : He.DefD := ⟨("_law_is_so", none), "_law_is_so", "_law_is_so", defArgs st__law_is_so, defBody st__law_is_so, defScope st__law_is_so, [], []⟩
def dd__law_papers : He.DefD := ⟨("_law_papers", none), "_law_papers", "_law_papers", defArgs st__law_papers, defBody st__law_papers, defScope st__law_papers, [], []⟩
def dd__law_odd_values : He.DefD := ⟨("_law_odd_values", none), "_law_odd_values", "_law_odd_values", defArgs st__law_odd_values, defBody st__law_odd_values, defScope st__law_odd_values, [], []⟩
def dd_law : He.DefD := ⟨("law", none), "law", "law", defArgs st_law, defBody st_law, defScope st_law, [], []⟩
def fn : List He.DefD := [dd_is_integer, dd_is_row, dd_is_square, dd_is_same, dd_is_told, dd_unit_of, dd_back_of, dd_broken_three, dd_group_paper, dd_is_group_paper, dd__check_rows, dd__law_dice, dd__law_roll, dd__law_pick, dd__law_mixed, dd__law_orders, dd__law_joined, dd__law_undone, dd__law_drawn_move, dd__law_places_of, dd__law_product_dots, dd__law_cyclic, dd__law_direct, dd__law_moves_rows, dd__law_turned_pairs, dd__law_quaternion_rows, dd__law_renamed_group, dd__law_group_rows, dd__law_falls, dd__law_group_fault, dd__law_with_entry, dd__law_near_group, dd__law_is_so, dd__law_papers, dd__law_odd_values, dd_law]
def fa : List He.Fa := [.glo "is_integer", .glo "is_row", .glo "is_square", .glo "is_same", .glo "is_told", .glo "unit_of", .glo "back_of", .glo "broken_three", .glo "group_paper", .glo "is_group_paper", .glo "_check_rows", .glo "_law_dice", .glo "_law_roll", .glo "_law_pick", .glo "_law_mixed", .glo "_law_orders", .glo "_law_joined", .glo "_law_undone", .glo "_law_drawn_move", .glo "_law_places_of", .glo "_law_product_dots", .glo "_law_cyclic", .glo "_law_direct", .glo "_law_moves_rows", .glo "_law_turned_pairs", .glo "_law_quaternion_rows", .glo "_law_renamed_group", .glo "_law_group_rows", .glo "_law_falls", .glo "_law_group_fault", .glo "_law_with_entry", .glo "_law_near_group", .glo "_law_is_so", .glo "_law_papers", .glo "_law_odd_values", .glo "law", .free "len", .free "range", .free "tuple", .free "list", .free "isinstance", .free "int", .free "bool", .free "str", .free "abs", .free "max", .free "min", .free "all", .free "any", .free "sum", .free "sorted", .free "enumerate", .free "repr", .free "set", .free "dict", .free "zip", .int "TOO_LONG" 1000000000000000000000000000000000000000000000000000000000000, .int "MAX_GROUP" 24]
def lo0 : List PySem.Str := ["NamesError", "InvalidGroup", "TOO_LONG", "is_integer", "is_row", "is_square", "is_same", "is_told", "unit_of", "back_of", "broken_three", "MAX_GROUP", "group_paper", "is_group_paper", "_check_rows", "_law_dice", "_law_roll", "_law_pick", "_law_mixed", "_law_orders", "_law_joined", "_law_undone", "_law_drawn_move", "_law_places_of", "_law_product_dots", "_law_cyclic", "_law_direct", "_law_moves_rows", "_law_turned_pairs", "_law_quaternion_rows"]
def lo1 : List PySem.Str := ["_law_renamed_group", "_law_group_rows", "_law_falls", "_law_group_fault", "_law_with_entry", "_law_near_group", "_law_is_so", "_law_papers", "_law_odd_values"]
def loose : List PySem.Str := lo0 ++ lo1
abbrev R : PySem.W.OpenRow := PySem.W.OpenLaw.row PySem.Challenge.rw_truenames_k05_papers_about_groups_judged
abbrev hk : PySem.W.Hook := He.hookD 4 fa fn
def ob (s : PySem.W.SharedT) : He.AlD := He.obsDG 4 fa fn (HandSHeadRun.getT s)
theorem ob_eq (s : PySem.W.SharedT) : ob s = hk.obs s.abs := He.obsDG_eq (HandSHeadRun.getT_eq s)
theorem run (w : World) : HandSHeadRun.RunEq R (PySem.W.view R.prog [44]) hk ob 6000 loose w := by
  intro os
  kernel_rfl
end Hd
set_option Elab.async false
set_option linter.all false
set_option maxRecDepth 100000
set_option autoImplicit false
set_option maxHeartbeats 4000000
namespace Dn
open PySem PySem.Spec PyProof.Rows L2 Evl
theorem rp_ints {K : PySem.W.Frag} {G : Hp} : ∀ ns : List Int, RpAll K G (ns.map V.int) (ns.map PyData.int)
  | [] => .nil
  | n :: ns => .cons (.int n) (rp_ints ns)
theorem start_law {K : PySem.W.Frag} {H : Hp} {a : Addr} {ns : List Int} (hl : ns.length ≤ 63) (hS : SqL K H a (ns.map V.int)) : spD K 1 S_law [.ref a] H (fun v _ => v = .bl true) fun _ _ _ => False := by
  have e : Ex H (hide (fun _ => False) H) := fun a o h => hide_some.2 ⟨id, h⟩
  refine ⟨rfl, fun _ => False, [scr ns], fun d => d = .bool true, fun _ h => h.elim, .cons (.frz (ex_l e hS) (rp_ints ns)) .nil, ⟨ns, rfl, hl, rfl⟩, fun v d H' q _ r => ?_⟩
  subst q
  cases r
  rfl
theorem facts {P : Program} {w : World} {K : PySem.W.Frag} {h : Heap} {mg : Str → Option Value} {f : Addr} (X : K.In h) (G : h.Ns mainGlobals mg) (hfa : mg ("law" : Str) = some (.ref f)) (c : He.SaysD Hd.fa Hd.fn K) :
    ∃ fd : FuncData, (∀ (s : Shared) (v : Value), BindsTo s fd ⟨[v], []⟩ [("_law_script", v)]) ∧ ∀ base : Heap, K.In base → base.Ns mainGlobals mg → FnOk P w K mg base L2.CX0 6 f fd ["_law_script"] (spD K 1 S_law) := by
  have Fis_integer : Is K mg "is_integer" st_is_integer := by
    obtain ⟨fd, F⟩ := c.def_ 0 (d := Hd.dd_is_integer) rfl
    exact ⟨_, fd, F, He.glo_ok X G (c.fact 0 (f := .glo "is_integer") rfl)⟩
  have Fis_row : Is K mg "is_row" st_is_row := by
    obtain ⟨fd, F⟩ := c.def_ 1 (d := Hd.dd_is_row) rfl
    exact ⟨_, fd, F, He.glo_ok X G (c.fact 1 (f := .glo "is_row") rfl)⟩
  have Fis_square : Is K mg "is_square" st_is_square := by
    obtain ⟨fd, F⟩ := c.def_ 2 (d := Hd.dd_is_square) rfl
    exact ⟨_, fd, F, He.glo_ok X G (c.fact 2 (f := .glo "is_square") rfl)⟩
  have Fis_same : Is K mg "is_same" st_is_same := by
    obtain ⟨fd, F⟩ := c.def_ 3 (d := Hd.dd_is_same) rfl
    exact ⟨_, fd, F, He.glo_ok X G (c.fact 3 (f := .glo "is_same") rfl)⟩
  have Fis_told : Is K mg "is_told" st_is_told := by
    obtain ⟨fd, F⟩ := c.def_ 4 (d := Hd.dd_is_told) rfl
    exact ⟨_, fd, F, He.glo_ok X G (c.fact 4 (f := .glo "is_told") rfl)⟩
  have Funit_of : Is K mg "unit_of" st_unit_of := by
    obtain ⟨fd, F⟩ := c.def_ 5 (d := Hd.dd_unit_of) rfl
    exact ⟨_, fd, F, He.glo_ok X G (c.fact 5 (f := .glo "unit_of") rfl)⟩
  have Fback_of : Is K mg "back_of" st_back_of := by
    obtain ⟨fd, F⟩ := c.def_ 6 (d := Hd.dd_back_of) rfl
    exact ⟨_, fd, F, He.glo_ok X G (c.fact 6 (f := .glo "back_of") rfl)⟩
  have Fbroken_three : Is K mg "broken_three" st_broken_three := by
    obtain ⟨fd, F⟩ := c.def_ 7 (d := Hd.dd_broken_three) rfl
    exact ⟨_, fd, F, He.glo_ok X G (c.fact 7 (f := .glo "broken_three") rfl)⟩
  have Fgroup_paper : Is K mg "group_paper" st_group_paper := by
    obtain ⟨fd, F⟩ := c.def_ 8 (d := Hd.dd_group_paper) rfl
    exact ⟨_, fd, F, He.glo_ok X G (c.fact 8 (f := .glo "group_paper") rfl)⟩
  have Fis_group_paper : Is K mg "is_group_paper" st_is_group_paper := by
    obtain ⟨fd, F⟩ := c.def_ 9 (d := Hd.dd_is_group_paper) rfl
    exact ⟨_, fd, F, He.glo_ok X G (c.fact 9 (f := .glo "is_group_paper") rfl)⟩
  have F_check_rows : Is K mg "_check_rows" st__check_rows := by
    obtain ⟨fd, F⟩ := c.def_ 10 (d := Hd.dd__check_rows) rfl
    exact ⟨_, fd, F, He.glo_ok X G (c.fact 10 (f := .glo "_check_rows") rfl)⟩
  have F_law_dice : Is K mg "_law_dice" st__law_dice := by
    obtain ⟨fd, F⟩ := c.def_ 11 (d := Hd.dd__law_dice) rfl
    exact ⟨_, fd, F, He.glo_ok X G (c.fact 11 (f := .glo "_law_dice") rfl)⟩
  have F_law_roll : Is K mg "_law_roll" st__law_roll := by
    obtain ⟨fd, F⟩ := c.def_ 12 (d := Hd.dd__law_roll) rfl
    exact ⟨_, fd, F, He.glo_ok X G (c.fact 12 (f := .glo "_law_roll") rfl)⟩
  have F_law_pick : Is K mg "_law_pick" st__law_pick := by
    obtain ⟨fd, F⟩ := c.def_ 13 (d := Hd.dd__law_pick) rfl
    exact ⟨_, fd, F, He.glo_ok X G (c.fact 13 (f := .glo "_law_pick") rfl)⟩
  have F_law_mixed : Is K mg "_law_mixed" st__law_mixed := by
    obtain ⟨fd, F⟩ := c.def_ 14 (d := Hd.dd__law_mixed) rfl
    exact ⟨_, fd, F, He.glo_ok X G (c.fact 14 (f := .glo "_law_mixed") rfl)⟩
  have F_law_undone : Is K mg "_law_undone" st__law_undone := by
    obtain ⟨fd, F⟩ := c.def_ 17 (d := Hd.dd__law_undone) rfl
    exact ⟨_, fd, F, He.glo_ok X G (c.fact 17 (f := .glo "_law_undone") rfl)⟩
  have F_law_drawn_move : Is K mg "_law_drawn_move" st__law_drawn_move := by
    obtain ⟨fd, F⟩ := c.def_ 18 (d := Hd.dd__law_drawn_move) rfl
    exact ⟨_, fd, F, He.glo_ok X G (c.fact 18 (f := .glo "_law_drawn_move") rfl)⟩
  have F_law_places_of : Is K mg "_law_places_of" st__law_places_of := by
    obtain ⟨fd, F⟩ := c.def_ 19 (d := Hd.dd__law_places_of) rfl
    exact ⟨_, fd, F, He.glo_ok X G (c.fact 19 (f := .glo "_law_places_of") rfl)⟩
  have F_law_product_dots : Is K mg "_law_product_dots" st__law_product_dots := by
    obtain ⟨fd, F⟩ := c.def_ 20 (d := Hd.dd__law_product_dots) rfl
    exact ⟨_, fd, F, He.glo_ok X G (c.fact 20 (f := .glo "_law_product_dots") rfl)⟩
  have F_law_cyclic : Is K mg "_law_cyclic" st__law_cyclic := by
    obtain ⟨fd, F⟩ := c.def_ 21 (d := Hd.dd__law_cyclic) rfl
    exact ⟨_, fd, F, He.glo_ok X G (c.fact 21 (f := .glo "_law_cyclic") rfl)⟩
  have F_law_direct : Is K mg "_law_direct" st__law_direct := by
    obtain ⟨fd, F⟩ := c.def_ 22 (d := Hd.dd__law_direct) rfl
    exact ⟨_, fd, F, He.glo_ok X G (c.fact 22 (f := .glo "_law_direct") rfl)⟩
  have F_law_turned_pairs : Is K mg "_law_turned_pairs" st__law_turned_pairs := by
    obtain ⟨fd, F⟩ := c.def_ 24 (d := Hd.dd__law_turned_pairs) rfl
    exact ⟨_, fd, F, He.glo_ok X G (c.fact 24 (f := .glo "_law_turned_pairs") rfl)⟩
  have F_law_renamed_group : Is K mg "_law_renamed_group" st__law_renamed_group := by
    obtain ⟨fd, F⟩ := c.def_ 26 (d := Hd.dd__law_renamed_group) rfl
    exact ⟨_, fd, F, He.glo_ok X G (c.fact 26 (f := .glo "_law_renamed_group") rfl)⟩
  have F_law_group_rows : Is K mg "_law_group_rows" st__law_group_rows := by
    obtain ⟨fd, F⟩ := c.def_ 27 (d := Hd.dd__law_group_rows) rfl
    exact ⟨_, fd, F, He.glo_ok X G (c.fact 27 (f := .glo "_law_group_rows") rfl)⟩
  have F_law_group_fault : Is K mg "_law_group_fault" st__law_group_fault := by
    obtain ⟨fd, F⟩ := c.def_ 29 (d := Hd.dd__law_group_fault) rfl
    exact ⟨_, fd, F, He.glo_ok X G (c.fact 29 (f := .glo "_law_group_fault") rfl)⟩
  have F_law_with_entry : Is K mg "_law_with_entry" st__law_with_entry := by
    obtain ⟨fd, F⟩ := c.def_ 30 (d := Hd.dd__law_with_entry) rfl
    exact ⟨_, fd, F, He.glo_ok X G (c.fact 30 (f := .glo "_law_with_entry") rfl)⟩
  have F_law_near_group : Is K mg "_law_near_group" st__law_near_group := by
    obtain ⟨fd, F⟩ := c.def_ 31 (d := Hd.dd__law_near_group) rfl
    exact ⟨_, fd, F, He.glo_ok X G (c.fact 31 (f := .glo "_law_near_group") rfl)⟩
  have F_law_is_so : Is K mg "_law_is_so" st__law_is_so := by
    obtain ⟨fd, F⟩ := c.def_ 32 (d := Hd.dd__law_is_so) rfl
    exact ⟨_, fd, F, He.glo_ok X G (c.fact 32 (f := .glo "_law_is_so") rfl)⟩
  have F_law_papers : Is K mg "_law_papers" st__law_papers := by
    obtain ⟨fd, F⟩ := c.def_ 33 (d := Hd.dd__law_papers) rfl
    exact ⟨_, fd, F, He.glo_ok X G (c.fact 33 (f := .glo "_law_papers") rfl)⟩
  have F_law_odd_values : Is K mg "_law_odd_values" st__law_odd_values := by
    obtain ⟨fd, F⟩ := c.def_ 34 (d := Hd.dd__law_odd_values) rfl
    exact ⟨_, fd, F, He.glo_ok X G (c.fact 34 (f := .glo "_law_odd_values") rfl)⟩
  have B : Bl mg := ⟨He.free_ok X G (c.fact 36 (f := .free "len") rfl), He.free_ok X G (c.fact 37 (f := .free "range") rfl), He.free_ok X G (c.fact 38 (f := .free "tuple") rfl), He.free_ok X G (c.fact 39 (f := .free "list") rfl), He.free_ok X G (c.fact 40 (f := .free "isinstance") rfl), He.free_ok X G (c.fact 41 (f := .free "int") rfl), He.free_ok X G (c.fact 42 (f := .free "bool") rfl), He.free_ok X G (c.fact 43 (f := .free "str") rfl), He.free_ok X G (c.fact 44 (f := .free "abs") rfl), He.free_ok X G (c.fact 45 (f := .free "max") rfl), He.free_ok X G (c.fact 46 (f := .free "min") rfl), He.free_ok X G (c.fact 47 (f := .free "all") rfl), He.free_ok X G (c.fact 48 (f := .free "any") rfl), He.free_ok X G (c.fact 49 (f := .free "sum") rfl), He.free_ok X G (c.fact 50 (f := .free "sorted") rfl), He.free_ok X G (c.fact 51 (f := .free "enumerate") rfl), He.free_ok X G (c.fact 52 (f := .free "repr") rfl), He.free_ok X G (c.fact 53 (f := .free "set") rfl), He.free_ok X G (c.fact 54 (f := .free "dict") rfl), He.free_ok X G (c.fact 55 (f := .free "zip") rfl)⟩
  obtain ⟨t1, c1⟩ := He.int_ok X G (c.fact 56 (f := .int "TOO_LONG" 1000000000000000000000000000000000000000000000000000000000000) rfl)
  obtain ⟨t2, c2⟩ := He.int_ok X G (c.fact 57 (f := .int "MAX_GROUP" 24) rfl)
  obtain ⟨fd, F⟩ := c.def_ 35 (d := Hd.dd_law) rfl
  have e := hfa.symm.trans (He.glo_ok X G (c.fact 35 (f := .glo "law") rfl))
  cases e
  have b := FunD.bindsA (ps := ["_law_script"]) F fun _ _ _ _ _ _ us hl => match us, hl with | [_], _ => rfl
  refine ⟨fd, fun s v => b s [v] rfl, fun base _ _ => ?_⟩
  have O_is_integer : Ok P w K mg base "is_integer" P_is_integer 1 (spD K 1 S_is_integer) := ok_is_integer Fis_integer B c1
  have O_is_row : Ok P w K mg base "is_row" P_is_row 1 (spD K 3 S_is_row) := ok_is_row Fis_row B
  have O_is_square := ok_is_square Fis_square B O_is_row
  have O_is_same0 := ok_is_same0 Fis_same B O_is_integer
  have O_is_same := ok_is_same Fis_same B O_is_integer O_is_same0
  have O_is_told := ok_is_told Fis_told B O_is_same O_is_row
  have O_check_rows := ok_check_rows F_check_rows c2 O_is_square
  have O_unit_of : Ok P w K mg base "unit_of" P_unit_of 1 (spD K 1 S_unit_of) := ok_unit_of Funit_of B
  have O_back_of : Ok P w K mg base "back_of" P_back_of 1 (spD K 3 S_back_of) := ok_back_of Fback_of B
  have O_three : Ok P w K mg base "broken_three" P_broken_three 1 (spD K 1 S_broken_three) := ok_broken_three Fbroken_three B
  have O_group_paper := ok_group_paper Fgroup_paper B O_check_rows O_unit_of O_back_of O_three
  have O_is_paper := ok_is_group_paper Fis_group_paper B O_check_rows O_is_told O_unit_of O_back_of O_is_same O_group_paper
  have O_dice : Ok P w K mg base "_law_dice" P__law_dice 1 (spL K 2 S__law_dice) := ok_dice F_law_dice B
  have O_roll : Ok P w K mg base "_law_roll" P__law_roll 1 (spM K 2 S__law_roll) := ok_roll F_law_roll B
  have O_pick := ok_pick F_law_pick B O_roll
  have O_mixed := ok_mixed F_law_mixed B O_roll
  have O_move := ok_drawn_move F_law_drawn_move B O_mixed
  have O_undone : Ok P w K mg base "_law_undone" P__law_undone 1 (spD K 1 S__law_undone) := ok_undone F_law_undone B
  have O_places : Ok P w K mg base "_law_places_of" P__law_places_of 1 (spD K 2 S__law_places_of) := ok_places_of F_law_places_of B
  have O_dots := ok_product_dots F_law_product_dots B O_places
  have O_cyclic : Ok P w K mg base "_law_cyclic" P__law_cyclic 1 (spD K 1 S__law_cyclic) := ok_cyclic F_law_cyclic B
  have O_direct := ok_direct F_law_direct B O_dots
  have O_turned : Ok P w K mg base "_law_turned_pairs" P__law_turned_pairs 1 (spD K 1 S__law_turned_pairs) := ok_turned_pairs F_law_turned_pairs B
  have O_renamed := ok_renamed_group F_law_renamed_group B O_undone
  have O_rows := ok_group_rows F_law_group_rows B O_cyclic O_direct O_turned O_pick O_renamed O_move
  have O_fault : Ok P w K mg base "_law_group_fault" P__law_group_fault 1 (spD K 1 S__law_group_fault) := ok_group_fault F_law_group_fault B
  have O_entry : Ok P w K mg base "_law_with_entry" P__law_with_entry 1 (spD K 4 S__law_with_entry) := ok_with_entry F_law_with_entry
  have O_near := ok_near_group F_law_near_group B O_roll O_move O_entry
  have O_is_so := ok_is_so F_law_is_so B O_fault
  have O_papers := ok_papers F_law_papers B O_roll
  have O_odd : Ok P w K mg base "_law_odd_values" P__law_odd_values 1 (spD K 1 S__law_odd_values) := ok_odd_values F_law_odd_values
  exact ok_law F B O_dice O_near O_rows O_papers O_is_so O_is_paper O_odd
end Dn
open PySem PySem.W PySem.Calls PyProof.Rows
theorem PySem.Challenge.cw_truenames_k05_papers_about_groups_judged_holds : PySem.Challenge.rw_truenames_k05_papers_about_groups_judged.Holds := by
  w_on; o_law
  refine HandSHeadRun.head_any (r := OpenLaw.row PySem.Challenge.rw_truenames_k05_papers_about_groups_judged) (q := view (OpenLaw.row PySem.Challenge.rw_truenames_k05_papers_about_groups_judged).prog [44]) (H := Hd.hk) (ob := Hd.ob) (M := 6000) (loose := Hd.loose) (d := HandSHeadRun.topDef (OpenLaw.row PySem.Challenge.rw_truenames_k05_papers_about_groups_judged).prog 44) (kwd := []) Hd.ob_eq
    (by kernel_rfl) (fun s => by kernel_rfl) Hd.run (by kernel_rfl) (by kernel_rfl) (by kernel_rfl) (by rfl) (by first | assumption | decide +kernel) (by decide +kernel) ⟨rfl, rfl, rfl, rfl, rfl, by decide +kernel⟩ ?hw ?hc
  case hw => w_witness2
  case hc =>
    refine L2.walk_ofE (l := PySem.Challenge.rw_truenames_k05_papers_about_groups_judged) (n := 63) (k := 6) (x := "_law_script") (CX := L2.CX0) rfl (by decide) (by kernel_rfl) ⟨rfl, by decide, by decide⟩ ?F (fun _ _ _ _ z => z)
    intro w mg fa h Y G hmg0
    obtain ⟨K, KX, c⟩ := Y
    have hmg : mg ("law" : PySem.Str) = some (.ref fa) := by
      have e : (HandSHeadRun.topDef (OpenLaw.row PySem.Challenge.rw_truenames_k05_papers_about_groups_judged).prog 44).name = ("law" : PySem.Str) := by kernel_rfl
      rw [← e]
      exact hmg0
    obtain ⟨fd, hb, hF⟩ := Dn.facts (P := (PySem.Challenge.rw_truenames_k05_papers_about_groups_judged).prog) (w := w) KX G hmg c
    refine ⟨K, fd, Dn.spD K 1 Dn.S_law, KX, hb, fun H a ns hl _ hS => ?_, hF⟩
    exact Dn.start_law hl hS
