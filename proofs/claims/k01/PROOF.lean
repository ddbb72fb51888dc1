import PyProof.Rows.All
import Wide.All
import OpenK.AllK
import Wide.FinOn
import KE.KStateDown
import HandS.ForMost
import HandS.More
import HandS.WordsExc
import HandS.Defaults
import HandS.IsInst
import HandS.Deep
import HandS.DeepEq
import HandS.TupAny
import HandS.Conv
import HandS.Style
import HandS.Wide
import HandS.Evl
import KE.GoesEnum
import HandS.SortInts
import HandS.Dict
import HandS.SetFor
import HandS.TupMul
import KE.KMathGC
import HandS.TupSets
import HandS.DictComp
import HandS.Gcd
import HandS.TryOnly
import HandS.DictTup
import KE.KDictSum
import HandS.ExcValue
import HandS.ExcOwn
import KE.KDictPairs
import HandS.Base
import HandS.Call
import HandS.Exc
import HandS.HeadHook1
import HandS.HeadHook2
import HandS.Ends
import HandS.Words
import HandS.Head0
import HandS.Head1
import HandS.Head2
import HandS.HeadEnd
import HandS.Head3
import PySem.Challenge.RW_truenames_k01_whole_closures_and_orbits
set_option Elab.async false
set_option linter.all false
set_option maxRecDepth 100000
set_option autoImplicit false
set_option maxHeartbeats 4000000
/-! Own layer: what a body does, told over deep values and slots, without the heap. -/
namespace Dn
open PySem L2

abbrev D := PyData
def keyB : Key → D
  | .inl i => .int i
  | .inr x => .str x
def dkD (kvs : List (Key × D)) : List (D × D) := kvs.map fun p => (keyB p.1, p.2)
mutual
inductive Rp (K : PySem.W.Frag) (G : Hp) : V → D → Prop
  | non : Rp K G .non .none
  | bl (b : Bool) : Rp K G (.bl b) (.bool b)
  | int (i : Int) : Rp K G (.int i) (.int i)
  | str (x : Str) : Rp K G (.str x) (.str x)
  | lst {a : Addr} {xs : List V} {ds : List D} : G a = some (.lst xs) → RpAll K G xs ds → Rp K G (.ref a) (.list ds)
  | tup {a : Addr} {xs : List V} {ds : List D} : G a = some (.tup xs) → RpAll K G xs ds → Rp K G (.ref a) (.tuple ds)
  | dct {a : Addr} {kws : List (Key × V)} {kvs : List (Key × D)} {dd : List (D × D)} : G a = some (.dK kws) → RpKv K G kws kvs → dd = dkD kvs → Rp K G (.ref a) (.dict dd)
  | frz {a : Addr} {xs : List V} {ds : List D} : SqL K G a xs → RpAll K G xs ds → Rp K G (.ref a) (.dict [(.none, .tuple ds)])
inductive RpAll (K : PySem.W.Frag) (G : Hp) : List V → List D → Prop
  | nil : RpAll K G [] []
  | cons {v : V} {vs : List V} {d : D} {ds : List D} : Rp K G v d → RpAll K G vs ds → RpAll K G (v :: vs) (d :: ds)
inductive RpKv (K : PySem.W.Frag) (G : Hp) : List (Key × V) → List (Key × D) → Prop
  | nil : RpKv K G [] []
  | cons {k : Key} {v : V} {d : D} {kws : List (Key × V)} {kvs : List (Key × D)} : Rp K G v d → RpKv K G kws kvs → RpKv K G ((k, v) :: kws) ((k, d) :: kvs)
end

open Evl
mutual
theorem Rp.mono {K : PySem.W.Frag} {G G' : Hp} (e : Ex G G') : ∀ {v : V} {d : D}, Rp K G v d → Rp K G' v d
  | _, _, .non => .non
  | _, _, .bl b => .bl b
  | _, _, .int b => .int b
  | _, _, .str b => .str b
  | _, _, .lst h r => .lst (e _ _ h) (RpAll.mono e r)
  | _, _, .tup h r => .tup (e _ _ h) (RpAll.mono e r)
  | _, _, .dct h r z => .dct (e _ _ h) (RpKv.mono e r) z
  | _, _, .frz h r => .frz (ex_l e h) (RpAll.mono e r)
theorem RpAll.mono {K : PySem.W.Frag} {G G' : Hp} (e : Ex G G') : ∀ {v : List V} {d : List D}, RpAll K G v d → RpAll K G' v d
  | _, _, .nil => .nil
  | _, _, .cons h r => .cons (Rp.mono e h) (RpAll.mono e r)
theorem RpKv.mono {K : PySem.W.Frag} {G G' : Hp} (e : Ex G G') : ∀ {v : List (Key × V)} {d : List (Key × D)}, RpKv K G v d → RpKv K G' v d
  | _, _, .nil => .nil
  | _, _, .cons h r => .cons (Rp.mono e h) (RpKv.mono e r)
end
section
variable {K : PySem.W.Frag} {G : Hp}
theorem RpAll.length : ∀ {vs : List V} {ds : List D}, RpAll K G vs ds → vs.length = ds.length
  | _, _, .nil => rfl
  | _, _, .cons _ r => by simp [RpAll.length r]
theorem RpAll.get : ∀ {vs : List V} {ds : List D} {i : Nat} {d : D}, RpAll K G vs ds → ds[i]? = some d → ∃ v, vs[i]? = some v ∧ Rp K G v d
  | _, _, _, _, .nil, e => by simp at e
  | _, _, 0, _, .cons h _, e => by simp at e; subst e; exact ⟨_, rfl, h⟩
  | _, _, i + 1, _, .cons _ r, e => by simpa using RpAll.get r (by simpa using e)
theorem RpAll.get' : ∀ {vs : List V} {ds : List D} {i : Nat} {v : V}, RpAll K G vs ds → vs[i]? = some v → ∃ d, ds[i]? = some d ∧ Rp K G v d
  | _, _, _, _, .nil, e => by simp at e
  | _, _, 0, _, .cons h _, e => by simp at e; subst e; exact ⟨_, rfl, h⟩
  | _, _, i + 1, _, .cons _ r, e => by simpa using RpAll.get' r (by simpa using e)
theorem RpAll.append : ∀ {vs ws : List V} {ds es : List D}, RpAll K G vs ds → RpAll K G ws es → RpAll K G (vs ++ ws) (ds ++ es)
  | _, _, _, _, .nil, s => s
  | _, _, _, _, .cons h r, s => .cons h (RpAll.append r s)
theorem RpAll.set : ∀ {vs : List V} {ds : List D} {v : V} {d : D} (i : Nat), RpAll K G vs ds → Rp K G v d → RpAll K G (vs.set i v) (ds.set i d)
  | _, _, _, _, _, .nil, _ => .nil
  | _, _, _, _, 0, .cons _ r, s => .cons s r
  | _, _, _, _, i + 1, .cons h r, s => .cons h (RpAll.set i r s)
theorem RpAll.take : ∀ {vs : List V} {ds : List D} (i : Nat), RpAll K G vs ds → RpAll K G (vs.take i) (ds.take i)
  | _, _, 0, _ => by simp; exact .nil
  | _, _, _ + 1, .nil => .nil
  | _, _, i + 1, .cons h r => .cons h (RpAll.take i r)
theorem RpAll.drop : ∀ {vs : List V} {ds : List D} (i : Nat), RpAll K G vs ds → RpAll K G (vs.drop i) (ds.drop i)
  | _, _, 0, r => r
  | _, _, _ + 1, .nil => .nil
  | _, _, i + 1, .cons _ r => RpAll.drop i r
theorem RpAll.erase : ∀ {vs : List V} {ds : List D} (i : Nat), RpAll K G vs ds → RpAll K G (vs.eraseIdx i) (ds.eraseIdx i)
  | _, _, _, .nil => .nil
  | _, _, 0, .cons _ r => r
  | _, _, i + 1, .cons h r => .cons h (RpAll.erase i r)
theorem RpAll.dropLast {vs : List V} {ds : List D} (r : RpAll K G vs ds) : RpAll K G vs.dropLast ds.dropLast := by
  rw [List.dropLast_eq_take, List.dropLast_eq_take, r.length]; exact r.take _
theorem RpAll.reverse : ∀ {vs : List V} {ds : List D}, RpAll K G vs ds → RpAll K G vs.reverse ds.reverse
  | _, _, .nil => .nil
  | _, _, .cons h r => by simpa using r.reverse.append (.cons h .nil)
theorem RpAll.ints : ∀ (ns : List Int), RpAll K G (ns.map V.int) (ns.map PyData.int)
  | [] => .nil
  | n :: ns => .cons (.int n) (RpAll.ints ns)
theorem RpAll.of_ints : ∀ {ns : List Int} {vs : List V}, RpAll K G vs (ns.map PyData.int) → vs = ns.map V.int
  | [], _, .nil => rfl
  | n :: ns, _, .cons (.int _) r => by rw [RpAll.of_ints r]; rfl
theorem RpAll.of_bls : ∀ {ns : List Bool} {vs : List V}, RpAll K G vs (ns.map PyData.bool) → vs = ns.map V.bl
  | [], _, .nil => rfl
  | n :: ns, _, .cons (.bl _) r => by rw [RpAll.of_bls r]; rfl
end

/-! ### slots -/
inductive MO where
  | lst (ds : List D)
  | dct (kvs : List (Key × D))
  | par (p : Addr) (m : MO)
  /-- a kept range 0, 1, .. -/
  | rng (j : Int)
  /-- a dict whose keys are tuples of ints -/
  | dtu (kvs : List (List Int × D))
def RpO (K : PySem.W.Frag) (G : Hp) : MO → HO → Prop
  | .lst ds, .lst vs => RpAll K G vs ds
  | .dct kvs, .dK kws => Paired (fun (p : Key × D) (q : Key × V) => p.1 = q.1 ∧ Rp K G q.2 p.2) kvs kws
  | .par _ m, o => RpO K G m o
  | .rng j, .rng lo hi => lo = 0 ∧ hi = j
  | .dtu kvs, .dT kws => Paired (fun (p : List Int × D) (q : List Key × V) => p.1.map Sum.inl = q.1 ∧ Rp K G q.2 p.2) kvs kws
  | _, _ => False
theorem RpO.mono {K : PySem.W.Frag} {G G' : Hp} (e : Ex G G') : ∀ {m : MO} {o : HO}, RpO K G m o → RpO K G' m o
  | .par _ m, o, h => by unfold RpO at h ⊢; exact RpO.mono (m := m) e h
  | .lst ds, o, h => by cases o <;> first | exact RpAll.mono e h | exact False.elim h
  | .dct ds, o, h => by cases o <;> first | exact False.elim h | exact Paired.mapP h fun p q z => ⟨z.1, z.2.mono e⟩
  | .rng j, o, h => by cases o <;> first | exact False.elim h | exact h
  | .dtu ds, o, h => by cases o <;> first | exact False.elim h | exact Paired.mapP h fun p q z => ⟨z.1, z.2.mono e⟩
inductive SV where
  | im (d : D)
  | ow (m : MO)
abbrev Env := List (Option SV)
def Own (ρ : Env) (σ : L2.St) (a : Addr) : Prop := ∃ (i : Nat) (m : MO), ρ[i]? = some (some (SV.ow m)) ∧ σ[i]? = some (some (V.ref a))
open Classical in
noncomputable def hide (O : Addr → Prop) (H : Hp) : Hp := fun a => if O a then none else H a
theorem hide_some {O : Addr → Prop} {H : Hp} {a : Addr} {o : HO} : hide O H a = some o ↔ ¬ O a ∧ H a = some o := by
  unfold hide; by_cases h : O a <;> simp [h]
theorem hide_ex {O : Addr → Prop} {H : Hp} : Ex (hide O H) H := fun _ _ h => (hide_some.1 h).2
def Hd (T : Addr → Prop) (ρ : Env) (σ : L2.St) (a : Addr) : Prop := T a ∨ Own ρ σ a
/-- an object stands there, and no tuple -/
def Lv (H : Hp) (a : Addr) : Prop := H a ≠ none ∧ ∀ xs, H a ≠ some (.tup xs)
theorem Lv.upd {H : Hp} {a p : Addr} {o : HO} (ne : a ≠ p) (h : Lv H a) : Lv (upd H p o) a := by
  unfold Lv
  rw [upd_ne ne]
  exact h
theorem Lv.at {H : Hp} {p : Addr} {o : HO} (h : ∀ xs, o ≠ .tup xs) : Lv (L2.upd H p o) p := by
  unfold Lv
  rw [upd_same]
  exact ⟨by simp, fun xs z => h xs (by simpa using z)⟩
theorem Lv.keep {H H' : Hp} {a : Addr} (h : Lv H a) (k : ∀ o, H a = some o → H' a = some o) : Lv H' a := by
  obtain ⟨h1, h2⟩ := h
  cases e : H a with
  | none => exact absurd e h1
  | some o =>
    refine ⟨by rw [k o e]; simp, fun xs z => h2 xs ?_⟩
    rw [k o e] at z
    rw [e, z]
structure RS (K : PySem.W.Frag) (T : Addr → Prop) (ρ : Env) (σ : L2.St) (H : Hp) : Prop where
  len : ρ.length = σ.length
  im : ∀ (i : Nat) (d : D), ρ[i]? = some (some (SV.im d)) → ∃ v, σ[i]? = some (some v) ∧ Rp K (hide (Hd T ρ σ) H) v d
  ow : ∀ (i : Nat) (m : MO), ρ[i]? = some (some (SV.ow m)) → ∃ a o, σ[i]? = some (some (V.ref a)) ∧ H a = some o ∧ RpO K (hide (Hd T ρ σ) H) m o
  inj : ∀ (i j : Nat) (m m' : MO) (a : Addr), ρ[i]? = some (some (SV.ow m)) → ρ[j]? = some (some (SV.ow m')) → σ[i]? = some (some (V.ref a)) → σ[j]? = some (some (V.ref a)) → i = j
  dis : ∀ a, T a → ¬ Own ρ σ a
  dom : ∀ a, T a → Lv H a
  tag : ∀ (i : Nat) (p : Addr) (m : MO) (a : Addr), ρ[i]? = some (some (SV.ow (.par p m))) → σ[i]? = some (some (V.ref a)) → a = p
structure Po (ρ : Env) (σ : L2.St) (H : Hp) (ρ' : Env) (σ' : L2.St) (H' : Hp) : Prop where
  keep : ∀ a o, ¬ Own ρ σ a → H a = some o → H' a = some o
  own : ∀ a, Own ρ' σ' a → Own ρ σ a ∨ H a = none
  dom : ∀ a, H a ≠ none → H' a ≠ none
section
variable {K : PySem.W.Frag} {T : Addr → Prop} {ρ ρ1 ρ2 : Env} {σ σ1 σ2 : L2.St} {H H1 H2 : Hp}
theorem Po.refl : Po ρ σ H ρ σ H := ⟨fun _ _ _ h => h, fun _ h => .inl h, fun _ h => h⟩
theorem Po.trans (p : Po ρ σ H ρ1 σ1 H1) (q : Po ρ1 σ1 H1 ρ2 σ2 H2) : Po ρ σ H ρ2 σ2 H2 where
  keep := fun a o n h => q.keep a o (fun w => by
    rcases p.own a w with w | w
    · exact n w
    · rw [w] at h; cases h) (p.keep a o n h)
  own := fun a w => by
    rcases q.own a w with w | w
    · exact p.own a w
    · by_cases h : H a = none
      · exact .inr h
      · exact absurd w (p.dom a h)
  dom := fun a h => q.dom a (p.dom a h)
theorem Po.fz (p : Po ρ σ H ρ1 σ1 H1) : Ex (hide (Hd T ρ σ) H) (hide (Hd T ρ1 σ1) H1) := fun a o h => by
  obtain ⟨n, h⟩ := hide_some.1 h
  refine hide_some.2 ⟨?_, p.keep a o (fun w => n (.inr w)) h⟩
  rintro (t | w)
  · exact n (.inl t)
  · rcases p.own a w with w | w
    · exact n (.inr w)
    · rw [w] at h; cases h
theorem RS.ownDom (r : RS K T ρ σ H) {a : Addr} (h : Own ρ σ a) : H a ≠ none := by
  obtain ⟨i, m, h1, h2⟩ := h
  obtain ⟨b, o, e1, e2, _⟩ := r.ow i m h1
  rw [h2] at e1; cases e1; rw [e2]; simp
theorem RS.hdDom (r : RS K T ρ σ H) {a : Addr} (h : Hd T ρ σ a) : H a ≠ none := h.elim (fun t => (r.dom a t).1) r.ownDom
theorem rpo_tup {G : Hp} {xs : List V} : ∀ {m : MO}, ¬ RpO K G m (.tup xs)
  | .lst _, h => h
  | .dct _, h => h
  | .par _ m, h => rpo_tup (m := m) h
  | .rng _, h => h
  | .dtu _, h => h
theorem RS.hdLv (r : RS K T ρ σ H) {a : Addr} (h : Hd T ρ σ a) : Lv H a := h.elim (r.dom a) fun w => by
  refine ⟨r.ownDom w, fun xs e => ?_⟩
  obtain ⟨i, m, h1, h2⟩ := w
  obtain ⟨b, o, e1, e2, e3⟩ := r.ow i m h1
  rw [h2] at e1; cases e1
  rw [e] at e2; cases e2
  exact rpo_tup e3
/-- the heap has grown -/
theorem RS.grow (r : RS K T ρ σ H) (e : Ex H H1) : RS K T ρ σ H1 := by
  have ez : Ex (hide (Hd T ρ σ) H) (hide (Hd T ρ σ) H1) := fun a o h => hide_some.2 ⟨(hide_some.1 h).1, e _ _ (hide_some.1 h).2⟩
  refine ⟨r.len, fun i d h => ?_, fun i m h => ?_, r.inj, r.dis, fun a t => ?_, r.tag⟩
  · obtain ⟨v, h1, h2⟩ := r.im i d h; exact ⟨v, h1, h2.mono ez⟩
  · obtain ⟨a, o, h1, h2, h3⟩ := r.ow i m h; exact ⟨a, o, h1, e _ _ h2, h3.mono ez⟩
  · exact (r.dom a t).keep fun o h => e a o h
theorem Po.grow (e : Ex H H1) : Po ρ σ H ρ σ H1 := ⟨fun a o _ h => e a o h, fun _ h => .inl h, fun a h => by
  cases q : H a with
  | none => exact absurd q h
  | some o => rw [e a o q]; simp⟩
theorem hide_new {O : Addr → Prop} {p : Addr} {o : HO} (hO : ∀ a, O a → H a ≠ none) (h : H p = none) : hide O (upd H p o) p = some o := hide_some.2 ⟨fun w => hO p w h, upd_same⟩
theorem hide_grow {O : Addr → Prop} (e : Ex H H1) : Ex (hide O H) (hide O H1) := fun a o h => hide_some.2 ⟨(hide_some.1 h).1, e _ _ (hide_some.1 h).2⟩
end

/-! ### readings over slots -/
abbrev DE := Env → (D → Env → Prop) → Prop
abbrev DT := Env → (Bool → Env → Prop) → Prop
abbrev DA := Env → (List D → Env → Prop) → Prop
structure DEnds where
  nx : Env → Prop
  rt : D → Env → Prop
  bk : Env → Prop := fun _ => False
  ct : Env → Prop := fun _ => False
abbrev DS := DEnds → Env → Prop
abbrev DG := D → Env → (Env → Prop) → Prop

structure JE (X : Cx) (e : Expr) (f : DE) : Prop where
  ex : ∃ t, PE X e t ∧ ∀ (T : Addr → Prop) (ρ : Env) (σ : L2.St) (H : Hp) (QD : D → Env → Prop) (Q : VK), RS X.K T ρ σ H → f ρ QD →
    (∀ d ρ' v H', RS X.K T ρ' σ H' → Po ρ σ H ρ' σ H' → Rp X.K (hide (Hd T ρ' σ) H') v d → QD d ρ' → Q v H') → t σ H Q
structure JT (X : Cx) (e : Expr) (f : DT) : Prop where
  ex : ∃ t, PT X e t ∧ ∀ (T : Addr → Prop) (ρ : Env) (σ : L2.St) (H : Hp) (QD : Bool → Env → Prop) (Q : Bool → Hp → Prop), RS X.K T ρ σ H → f ρ QD →
    (∀ b ρ' H', RS X.K T ρ' σ H' → Po ρ σ H ρ' σ H' → QD b ρ' → Q b H') → t σ H Q
structure JA (X : Cx) (es : List Expr) (f : DA) : Prop where
  ex : ∃ t, PA X es t ∧ ∀ (T : Addr → Prop) (ρ : Env) (σ : L2.St) (H : Hp) (QD : List D → Env → Prop) (Q : List V → Hp → Prop), RS X.K T ρ σ H → f ρ QD →
    (∀ ds ρ' vs H', RS X.K T ρ' σ H' → Po ρ σ H ρ' σ H' → RpAll X.K (hide (Hd T ρ' σ) H') vs ds → QD ds ρ' → Q vs H') → t σ H Q
structure EndOk (K : PySem.W.Frag) (T : Addr → Prop) (ρ : Env) (σ : L2.St) (H : Hp) (E : DEnds) (D : Ends) : Prop where
  nx : ∀ ρ' σ' H', RS K T ρ' σ' H' → Po ρ σ H ρ' σ' H' → E.nx ρ' → D.nx σ' H'
  rt : ∀ d ρ' σ' v H', RS K T ρ' σ' H' → Po ρ σ H ρ' σ' H' → Rp K (hide (Hd T ρ' σ') H') v d → E.rt d ρ' → D.rt v H'
  bk : ∀ ρ' σ' H', RS K T ρ' σ' H' → Po ρ σ H ρ' σ' H' → E.bk ρ' → D.bk σ' H'
  ct : ∀ ρ' σ' H', RS K T ρ' σ' H' → Po ρ σ H ρ' σ' H' → E.ct ρ' → D.ct σ' H'
structure JS (X : Cx) (st : Stmt) (f : DS) : Prop where
  ex : ∃ t, PS X st t ∧ ∀ (T : Addr → Prop) (ρ : Env) (σ : L2.St) (H : Hp) (E : DEnds) (D : Ends), RS X.K T ρ σ H → f E ρ → EndOk X.K T ρ σ H E D → t D σ H
structure JSs (X : Cx) (st : List Stmt) (f : DS) : Prop where
  ex : ∃ t, PSs X st t ∧ ∀ (T : Addr → Prop) (ρ : Env) (σ : L2.St) (H : Hp) (E : DEnds) (D : Ends), RS X.K T ρ σ H → f E ρ → EndOk X.K T ρ σ H E D → t D σ H
theorem EndOk.step {K : PySem.W.Frag} {T : Addr → Prop} {ρ ρ1 : Env} {σ σ1 : L2.St} {H H1 : Hp} {E : DEnds} {D : Ends} (e : EndOk K T ρ σ H E D) (p : Po ρ σ H ρ1 σ1 H1) : EndOk K T ρ1 σ1 H1 E D :=
  ⟨fun a b c r q => e.nx a b c r (p.trans q), fun a b c d f r q => e.rt a b c d f r (p.trans q), fun a b c r q => e.bk a b c r (p.trans q), fun a b c r q => e.ct a b c r (p.trans q)⟩

/-! ### expressions -/
section
variable {X : Cx} {a b c : Expr} {fa fb fc : DE} {pos : Pos}
def dVar (i : Nat) : DE := fun ρ Q => match ρ[i]? with
  | some (some (SV.im d)) => Q d ρ
  | _ => False
theorem je_var {i : Nat} {x : Str} (hN : X.N[i]? = some x) (hv : Vis X.env.scope x) (hd : (x == ("__debug__" : Str)) = false := by decide) (hcd : (x == ("__classdict__" : Str)) = false := by decide) : JE X (.Name x pos) (dVar i) := by
  refine ⟨tVar i, pe_var hN hv hd hcd, fun T ρ σ H QD Q r h k => ?_⟩
  unfold dVar at h
  split at h
  · rename_i d e
    obtain ⟨v, e1, e2⟩ := r.im i d e
    exact ⟨v, e1, k d ρ v H r .refl e2 h⟩
  · exact False.elim h
def dC (d : D) : DE := fun ρ Q => Q d ρ
theorem je_of {e : Expr} {v : V} {d : D} (h : PE X e (tC v)) (hr : ∀ G, Rp X.K G v d) : JE X e (dC d) := ⟨tC v, h, fun T ρ σ H QD Q r h k => k d ρ v H r .refl (hr _) h⟩
theorem je_int {i : Int} {j} : JE X (.Constant (.int i) j pos) (dC (.int i)) := je_of pe_int fun _ => .int i
theorem je_bl {i : Bool} {j} : JE X (.Constant (.bool i) j pos) (dC (.bool i)) := je_of pe_bl fun _ => .bl i
theorem je_non {j} : JE X (.Constant .none j pos) (dC .none) := je_of pe_non fun _ => .non
theorem je_str {x : Str} {j} : JE X (.Constant (.str x) j pos) (dC (.str x)) := je_of pe_str fun _ => .str x
theorem je_globI {x : Str} {i : Int} {t : Tok} (hm : X.mg x = some (.int i t)) (hg : Gl X x) (hd : (x == ("__debug__" : Str)) = false := by decide) : JE X (.Name x pos) (dC (.int i)) := je_of (pe_glob (v := V.int i) hg hm ⟨t, rfl⟩ hd) fun _ => .int i

/-- a two-place operation by values -/
structure OpD (X : Cx) (f : Value → Value → Sem Value) (op : D → D → (D → Prop) → Prop) : Prop where
  ex : ∃ r : R2, OpR X f r ∧ ∀ (O : Addr → Prop) (H : Hp) (x y : V) (d e : D) (QD : D → Prop) (Q : VK), (∀ a, O a → H a ≠ none) → Rp X.K (hide O H) x d → Rp X.K (hide O H) y e → op d e QD →
    (∀ z v H', Ex H H' → Rp X.K (hide O H') v z → QD z → Q v H') → r x y H Q
def dBin (op : D → D → (D → Prop) → Prop) (fa fb : DE) : DE := fun ρ Q => fa ρ fun x ρ1 => fb ρ1 fun y ρ2 => op x y fun z => Q z ρ2
theorem je_two {e : Expr} {op : D → D → (D → Prop) → Prop} {r : R2} (hr : ∀ (O : Addr → Prop) (H : Hp) (x y : V) (d e : D) (QD : D → Prop) (Q : VK), (∀ a, O a → H a ≠ none) → Rp X.K (hide O H) x d → Rp X.K (hide O H) y e → op d e QD →
    (∀ z v H', Ex H H' → Rp X.K (hide O H') v z → QD z → Q v H') → r x y H Q) (ha : JE X a fa) (hb : JE X b fb) (he : ∀ ta tb, PE X a ta → PE X b tb → PE X e (tOp r ta tb)) : JE X e (dBin op fa fb) := by
  obtain ⟨ta, pa, ka⟩ := ha.ex
  obtain ⟨tb, pb, kb⟩ := hb.ex
  refine ⟨_, he ta tb pa pb, fun T ρ σ H QD Q r h k => ?_⟩
  refine ka T ρ σ H _ _ r h fun d ρ1 v H1 r1 p1 v1 h1 => ?_
  refine kb T ρ1 σ H1 _ _ r1 h1 fun e ρ2 w H2 r2 p2 v2 h2 => ?_
  refine hr (Hd T ρ2 σ) H2 v w d e _ _ (fun a => r2.hdDom) (v1.mono p2.fz) v2 h2 fun z u H3 e3 v3 h3 => ?_
  exact k z ρ2 u H3 (r2.grow e3) ((p1.trans p2).trans (.grow e3)) v3 h3
theorem je_bin {o : Operator} {op : D → D → (D → Prop) → Prop} (ho : OpD X (binaryOp o) op) (ha : JE X a fa) (hb : JE X b fb) : JE X (.BinOp a o b pos) (dBin op fa fb) := by
  obtain ⟨r, h1, h2⟩ := ho.ex
  exact je_two h2 ha hb fun _ _ => pe_op h1
theorem je_cmp {o : CmpOp} {op : D → D → (D → Prop) → Prop} (ho : OpD X (compareOp o) op) (ha : JE X a fa) (hb : JE X b fb) (hm : behindInMarks o b = false) : JE X (.Compare a [o] [b] pos) (dBin op fa fb) := by
  obtain ⟨r, h1, h2⟩ := ho.ex
  exact je_two h2 ha hb fun _ _ pa pb => pe_cmpR h1 pa pb hm
end
end Dn
set_option Elab.async false
set_option linter.all false
set_option maxRecDepth 100000
set_option autoImplicit false
set_option maxHeartbeats 4000000
namespace Dn
open PySem L2 Evl
section
variable {X : Cx} {a b c : Expr} {fa fb fc : DE} {pos : Pos}

/-! ### operators -/
theorem ex_new {O : Addr → Prop} {H : Hp} {p : Addr} {o : HO} (h : H p = none) : Ex (hide O H) (hide O (upd H p o)) := hide_grow (Ex.new h)
/-- a new list, a new tuple of what is known -/
theorem rp_newL {K : PySem.W.Frag} {O : Addr → Prop} {H : Hp} {p : Addr} {vs : List V} {ds : List D} (hO : ∀ a, O a → H a ≠ none) (h : H p = none) (r : RpAll K (hide O H) vs ds) : Rp K (hide O (upd H p (.lst vs))) (.ref p) (.list ds) := .lst (hide_new hO h) (r.mono (ex_new h))
theorem rp_newT {K : PySem.W.Frag} {O : Addr → Prop} {H : Hp} {p : Addr} {vs : List V} {ds : List D} (hO : ∀ a, O a → H a ≠ none) (h : H p = none) (r : RpAll K (hide O H) vs ds) : Rp K (hide O (upd H p (.tup vs))) (.ref p) (.tuple ds) := .tup (hide_new hO h) (r.mono (ex_new h))
theorem lt_of {K : PySem.W.Frag} {H : Hp} {a : Addr} {xs : List V} (h : H a = some (.tup xs)) : SqT K H a xs := .inl (.inl h)
theorem sqt_of {K : PySem.W.Frag} {O : Addr → Prop} {H : Hp} {a : Addr} {xs : List V} (h : hide O H a = some (.tup xs)) : SqT K H a xs := lt_of (hide_ex _ _ h)
theorem sql_of {K : PySem.W.Frag} {O : Addr → Prop} {H : Hp} {a : Addr} {xs : List V} (h : SqL K (hide O H) a xs) : SqL K H a xs := ex_l hide_ex h
theorem at_of {O : Addr → Prop} {H : Hp} {a : Addr} {o : HO} (h : hide O H a = some o) : H a = some o := (hide_some.1 h).2

def dAdd : D → D → (D → Prop) → Prop
  | .int i, .int j => fun Q => Q (.int (i + j))
  | .tuple xs, .tuple ys => fun Q => xs.length + ys.length ≤ 16777216 ∧ Q (.tuple (xs ++ ys))
  | .list xs, .list ys => fun Q => xs.length + ys.length ≤ 16777216 ∧ Q (.list (xs ++ ys))
  | .str x, .str y => fun Q => x.length + y.length ≤ 16777216 ∧ Q (.str (x ++ y))
  | _, _ => fun _ => False
theorem opd_add : OpD X (binaryOp .Add) dAdd := by
  refine ⟨_, .or op_add (.or op_catA (.or op_cat op_add_str)), fun O H x y d e QD Q hO rx ry h k => ?_⟩
  cases rx <;> cases ry <;> first | exact False.elim h | skip
  · exact .inl ⟨_, _, rfl, rfl, k _ _ H (.refl H) (.int _) h⟩
  · obtain ⟨hz, h⟩ := h
    exact .inr (.inr (.inr ⟨_, _, rfl, rfl, hz, k _ _ H (.refl H) (.str _) h⟩))
  · rename_i p xs ds hp rp q ys es hq rq
    obtain ⟨hz, h⟩ := h
    refine .inr (.inr (.inl ⟨_, _, _, _, rfl, rfl, at_of hp, at_of hq, by rw [rp.length, rq.length]; exact hz, fun l hl => k _ _ _ (Ex.new hl) (rp_newL hO hl (rp.append rq)) h⟩))
  · rename_i p xs ds hp rp q ys es hq rq
    obtain ⟨hz, h⟩ := h
    refine .inr (.inl ⟨_, _, _, _, rfl, rfl, sqt_of hp, sqt_of hq, by rw [rp.length, rq.length]; exact hz, fun e => ?_, fun _ e => ?_, fun _ _ l hl => k _ _ _ (Ex.new hl) (rp_newT hO hl (rp.append rq)) h⟩)
    · subst e; cases rp; exact k _ _ H (.refl H) (.tup hq rq) h
    · subst e; cases rq; exact k _ _ H (.refl H) (.tup hp rp) (by simpa using h)
/-- ints alone -/
def dI2 (C : Int → Int → Prop) (g : Int → Int → D) : D → D → (D → Prop) → Prop
  | .int i, .int j => fun Q => C i j ∧ Q (g i j)
  | _, _ => fun _ => False
theorem opd_i2 {f : Value → Value → Sem Value} {C : Int → Int → Prop} {g : Int → Int → D} {gv : Int → Int → V} (ho : OpR X f (rI C gv)) (hg : ∀ i j G, Rp X.K G (gv i j) (g i j)) : OpD X f (dI2 C g) := by
  refine ⟨_, ho, fun O H x y d e QD Q hO rx ry h k => ?_⟩
  cases rx <;> cases ry <;> first | exact False.elim h | skip
  exact ⟨_, _, rfl, rfl, h.1, k _ _ H (.refl H) (hg _ _ _) h.2⟩
theorem opd_i2' {f : Value → Value → Sem Value} {g : Int → Int → D} {gv : Int → Int → V} (ho : OpR X f (rI0 gv)) (hg : ∀ i j G, Rp X.K G (gv i j) (g i j)) : OpD X f (dI2 (fun _ _ => True) g) := by
  refine ⟨_, ho, fun O H x y d e QD Q hO rx ry h k => ?_⟩
  cases rx <;> cases ry <;> first | exact False.elim h | skip
  exact ⟨_, _, rfl, rfl, k _ _ H (.refl H) (hg _ _ _) h.2⟩
abbrev dSub := dI2 (fun _ _ => True) fun i j => .int (i - j)
abbrev dMul := dI2 CMulW fun i j => .int (i * j)
abbrev dFdiv := dI2 CDivW fun i j => .int (i / j)
abbrev dMod := dI2 (fun _ j => 0 < j) fun i j => .int (i % j)
abbrev dPow := dI2 CPow fun i j => .int (i ^ j.toNat)
abbrev dLt := dI2 (fun _ _ => True) fun i j => .bool (decide (i < j))
abbrev dLe := dI2 (fun _ _ => True) fun i j => .bool (decide (i ≤ j))
abbrev dGt := dI2 (fun _ _ => True) fun i j => .bool (decide (j < i))
abbrev dGe := dI2 (fun _ _ => True) fun i j => .bool (decide (j ≤ i))
theorem opd_sub : OpD X (binaryOp .Sub) dSub := opd_i2' op_sub fun _ _ _ => .int _
theorem opd_mul : OpD X (binaryOp .Mult) dMul := opd_i2 op_mulW fun _ _ _ => .int _
theorem opd_fdiv : OpD X (binaryOp .FloorDiv) dFdiv := opd_i2 op_fdivW fun _ _ _ => .int _
theorem opd_mod : OpD X (binaryOp .Mod) dMod := opd_i2 op_mod fun _ _ _ => .int _
theorem opd_pow : OpD X (binaryOp .Pow) dPow := opd_i2 op_pow fun _ _ _ => .int _
theorem opd_lt : OpD X (compareOp .Lt) dLt := opd_i2' op_lt fun _ _ _ => .bl _
theorem opd_le : OpD X (compareOp .LtE) dLe := opd_i2' op_le fun _ _ _ => .bl _
theorem opd_gt : OpD X (compareOp .Gt) dGt := opd_i2' op_gt fun _ _ _ => .bl _
theorem opd_ge : OpD X (compareOp .GtE) dGe := opd_i2' op_ge fun _ _ _ => .bl _

/-! ### equality -/
mutual
theorem Rp.dp {K : PySem.W.Frag} {O : Addr → Prop} {H : Hp} : ∀ {v : V} {d : D}, Rp K (hide O H) v d → d.canLay0 = true → Dp K H v d
  | _, _, .non, _ => .non
  | _, _, .bl _, _ => .bl _
  | _, _, .int _, _ => .int _
  | _, _, .str _, _ => .str _
  | _, _, .lst h r, c => .lst (.inl (.inl (at_of h))) (RpAll.dp r (by simpa only [PyData.canLay0] using c))
  | _, _, .tup h r, c => .tup (sqt_of h) (RpAll.dp r (by simpa only [PyData.canLay0] using c))
  | _, _, .dct _ _ _, c => by simp [PyData.canLay0] at c
  | _, _, .frz _ _, c => by simp [PyData.canLay0] at c
theorem RpAll.dp {K : PySem.W.Frag} {O : Addr → Prop} {H : Hp} : ∀ {v : List V} {d : List D}, RpAll K (hide O H) v d → PyData.canLayAll0 d = true → DpAll K H v d
  | _, _, .nil, _ => .nil
  | _, _, .cons h r, c => by
    simp only [PyData.canLayAll0, Bool.and_eq_true] at c
    exact .cons (Rp.dp h c.1) (RpAll.dp r c.2)
end
theorem shaped_lay {d : D} (h : SeqAt.shaped d = true) : d.canLay0 = true := by
  unfold SeqAt.shaped at h; rw [Bool.and_eq_true] at h; exact h.1
def dEq : D → D → (D → Prop) → Prop := fun x y Q => SeqAt.shaped x = true ∧ SeqAt.shaped y = true ∧ Q (.bool (PyData.eqv x y))
def dNe : D → D → (D → Prop) → Prop := fun x y Q => SeqAt.shaped x = true ∧ SeqAt.shaped y = true ∧ Q (.bool (!PyData.eqv x y))
theorem opd_eq (hu : X.A.units + 64 < cLine) : OpD X (compareOp .Eq) dEq := by
  refine ⟨_, op_eqD hu, fun O H x y d e QD Q hO rx ry h k => ?_⟩
  exact ⟨d, e, rx.dp (shaped_lay h.1), ry.dp (shaped_lay h.2.1), h.1, h.2.1, k _ _ H (.refl H) (.bl _) h.2.2⟩
theorem opd_ne (hu : X.A.units + 64 < cLine) : OpD X (compareOp .NotEq) dNe := by
  refine ⟨_, op_neD hu, fun O H x y d e QD Q hO rx ry h k => ?_⟩
  exact ⟨d, e, rx.dp (shaped_lay h.1), ry.dp (shaped_lay h.2.1), h.1, h.2.1, k _ _ H (.refl H) (.bl _) h.2.2⟩
/-- is None, is True -/
def isN : D → Bool
  | .none => true
  | _ => false
theorem isN_rp {K : PySem.W.Frag} {G : Hp} {v : V} {d : D} (r : Rp K G v d) : decide (v = .non) = isN d := by cases r <;> simp [isN]
def dIs : D → D → (D → Prop) → Prop
  | x, .none => fun Q => Q (.bool (isN x))
  | .bool x, .bool y => fun Q => Q (.bool (decide (x = y)))
  | _, _ => fun _ => False
def dIsNot : D → D → (D → Prop) → Prop
  | x, .none => fun Q => Q (.bool (!isN x))
  | .bool x, .bool y => fun Q => Q (.bool (!decide (x = y)))
  | _, _ => fun _ => False
theorem opd_is : OpD X (compareOp .Is) dIs := by
  refine ⟨_, .or op_isN op_isBl, fun O H x y d e QD Q hO rx ry h k => ?_⟩
  cases ry with
  | non => refine .inl ⟨rfl, k _ _ H (.refl H) (.bl _) ?_⟩; rw [isN_rp rx]; cases d <;> exact h
  | bl y => cases rx <;> first | exact False.elim h | exact .inr ⟨_, _, rfl, rfl, k _ _ H (.refl H) (.bl _) h⟩
  | _ => cases rx <;> exact False.elim h
theorem opd_isnot : OpD X (compareOp .IsNot) dIsNot := by
  refine ⟨_, .or op_notN op_notBl, fun O H x y d e QD Q hO rx ry h k => ?_⟩
  cases ry with
  | non => refine .inl ⟨rfl, k _ _ H (.refl H) (.bl _) ?_⟩; rw [isN_rp rx]; cases d <;> exact h
  | bl y => cases rx <;> first | exact False.elim h | exact .inr ⟨_, _, rfl, rfl, k _ _ H (.refl H) (.bl _) h⟩
  | _ => cases rx <;> exact False.elim h

/-! ### chains, and, or, not, if -/
def dChain (op op' : D → D → (D → Prop) → Prop) (fa fb fc : DE) : DE := fun ρ Q => fa ρ fun x ρ1 => fb ρ1 fun y ρ2 => op x y fun z => match z with
  | .bool true => fc ρ2 fun w ρ3 => op' y w fun z => Q z ρ3
  | .bool false => Q (.bool false) ρ2
  | _ => False
theorem je_chain {o o' : CmpOp} {op op' : D → D → (D → Prop) → Prop} (ho : OpD X (compareOp o) op) (ho' : OpD X (compareOp o') op') (ha : JE X a fa) (hb : JE X b fb) (hc : JE X c fc) (hm : lastMarks [o, o'] [b, c] = false := by with_unfolding_all rfl) :
    JE X (.Compare a [o, o'] [b, c] pos) (dChain op op' fa fb fc) := by
  obtain ⟨r, h1, h2⟩ := ho.ex
  obtain ⟨r', h1', h2'⟩ := ho'.ex
  obtain ⟨ta, pa, ka⟩ := ha.ex
  obtain ⟨tb, pb, kb⟩ := hb.ex
  obtain ⟨tc, pc, kc⟩ := hc.ex
  refine ⟨_, pe_chain h1 h1' pa pb pc hm, fun T ρ σ H QD Q r h k => ?_⟩
  refine ka T ρ σ H _ _ r h fun d ρ1 v H1 r1 p1 v1 h => ?_
  refine kb T ρ1 σ H1 _ _ r1 h fun e ρ2 w H2 r2 p2 v2 h => ?_
  refine h2 (Hd T ρ2 σ) H2 v w d e _ _ (fun a => r2.hdDom) (v1.mono p2.fz) v2 h fun z u H3 e3 v3 h => ?_
  have r3 := r2.grow e3
  have p3 : Po ρ2 σ H2 ρ2 σ H3 := .grow e3
  cases v3 with
  | bl q =>
    refine ⟨q, rfl, ?_⟩
    cases q with
    | false => exact k _ _ _ _ r3 ((p1.trans p2).trans p3) (.bl _) h
    | true =>
      rw [if_pos rfl]
      refine kc T ρ2 σ H3 _ _ r3 h fun g ρ4 y H4 r4 p4 v4 h => ?_
      refine h2' (Hd T ρ4 σ) H4 w y e g _ _ (fun a => r4.hdDom) ((v2.mono p3.fz).mono p4.fz) v4 h fun z u H5 e5 v5 h => ?_
      exact k z ρ4 u H5 (r4.grow e5) (((p1.trans p2).trans p3).trans (p4.trans (.grow e5))) v5 h
  | _ => exact False.elim h
def dAnd (fa fb : DE) : DE := fun ρ Q => fa ρ fun x ρ1 => match x with
  | .bool true => fb ρ1 Q
  | .bool false => Q (.bool false) ρ1
  | _ => False
def dOr (fa fb : DE) : DE := fun ρ Q => fa ρ fun x ρ1 => match x with
  | .bool true => Q (.bool true) ρ1
  | .bool false => fb ρ1 Q
  | _ => False
def dNot (fa : DE) : DE := fun ρ Q => fa ρ fun x ρ1 => match x with
  | .bool b => Q (.bool (!b)) ρ1
  | _ => False
variable {rest : List Expr}
theorem je_one {op} (ha : JE X a fa) : JE X (.BoolOp op [a] pos) fa := let ⟨t, p, k⟩ := ha.ex; ⟨t, pe_one p, k⟩
theorem je_and (ha : JE X a fa) (hb : JE X (.BoolOp .And (b :: rest) pos) fb) : JE X (.BoolOp .And (a :: b :: rest) pos) (dAnd fa fb) := by
  obtain ⟨ta, pa, ka⟩ := ha.ex
  obtain ⟨tb, pb, kb⟩ := hb.ex
  refine ⟨_, pe_and pa pb, fun T ρ σ H QD Q r h k => ?_⟩
  refine ka T ρ σ H _ _ r h fun d ρ1 v H1 r1 p1 v1 h => ?_
  cases v1 with
  | bl q =>
    refine ⟨q, rfl, ?_⟩
    cases q with
    | false => exact k _ _ _ _ r1 p1 (.bl _) h
    | true => exact kb T ρ1 σ H1 _ _ r1 h fun e ρ2 w H2 r2 p2 v2 h => k _ _ _ _ r2 (p1.trans p2) v2 h
  | _ => exact False.elim h
theorem je_or (ha : JE X a fa) (hb : JE X (.BoolOp .Or (b :: rest) pos) fb) : JE X (.BoolOp .Or (a :: b :: rest) pos) (dOr fa fb) := by
  obtain ⟨ta, pa, ka⟩ := ha.ex
  obtain ⟨tb, pb, kb⟩ := hb.ex
  refine ⟨_, pe_or pa pb, fun T ρ σ H QD Q r h k => ?_⟩
  refine ka T ρ σ H _ _ r h fun d ρ1 v H1 r1 p1 v1 h => ?_
  cases v1 with
  | bl q =>
    refine ⟨q, rfl, ?_⟩
    cases q with
    | true => exact k _ _ _ _ r1 p1 (.bl _) h
    | false => exact kb T ρ1 σ H1 _ _ r1 h fun e ρ2 w H2 r2 p2 v2 h => k _ _ _ _ r2 (p1.trans p2) v2 h
  | _ => exact False.elim h
theorem je_not (ha : JE X a fa) : JE X (.UnaryOp .Not a pos) (dNot fa) := by
  obtain ⟨ta, pa, ka⟩ := ha.ex
  refine ⟨_, pe_not pa, fun T ρ σ H QD Q r h k => ?_⟩
  refine ka T ρ σ H _ _ r h fun d ρ1 v H1 r1 p1 v1 h => ?_
  cases v1 with
  | bl q => exact ⟨q, rfl, k _ _ _ _ r1 p1 (.bl _) h⟩
  | _ => exact False.elim h
def dNeg (fa : DE) : DE := fun ρ Q => fa ρ fun x ρ1 => match x with
  | .int i => Q (.int (-i)) ρ1
  | _ => False
theorem je_neg (ha : JE X a fa) : JE X (.UnaryOp .USub a pos) (dNeg fa) := by
  obtain ⟨ta, pa, ka⟩ := ha.ex
  refine ⟨_, pe_un un_neg pa, fun T ρ σ H QD Q r h k => ?_⟩
  refine ka T ρ σ H _ _ r h fun d ρ1 v H1 r1 p1 v1 h => ?_
  cases v1 with
  | int q => exact ⟨q, rfl, k _ _ _ _ r1 p1 (.int _) h⟩
  | _ => exact False.elim h
/-- tests -/
def dTst (fa : DE) : DT := fun ρ Q => fa ρ fun x ρ1 => match x with
  | .bool b => Q b ρ1
  | _ => False
theorem jt_val (ha : JE X a fa) (he : ∀ whole, isTrue a X.env whole = (do let v ← whole; standAt a.pos; holding [v] (truthy v)) := by intro _; rfl) : JT X a (dTst fa) := by
  obtain ⟨ta, pa, ka⟩ := ha.ex
  refine ⟨_, pt_val pa he, fun T ρ σ H QD Q r h k => ?_⟩
  refine ka T ρ σ H _ _ r h fun d ρ1 v H1 r1 p1 v1 h => ?_
  cases v1 with
  | bl q => exact ⟨q, rfl, k _ _ _ r1 p1 h⟩
  | _ => exact False.elim h
theorem jt_cmp {o : CmpOp} {op : D → D → (D → Prop) → Prop} (ho : OpD X (compareOp o) op) (ha : JE X a fa) (hb : JE X b fb) (hm : behindInMarks o b = false) : JT X (.Compare a [o] [b] pos) (dTst (dBin op fa fb)) := by
  obtain ⟨r, h1, h2⟩ := ho.ex
  obtain ⟨ta, pa, ka⟩ := ha.ex
  obtain ⟨tb, pb, kb⟩ := hb.ex
  refine ⟨_, pt_cmpR h1 pa pb hm, fun T ρ σ H QD Q r h k => ?_⟩
  refine ka T ρ σ H _ _ r h fun d ρ1 v H1 r1 p1 v1 h => ?_
  refine kb T ρ1 σ H1 _ _ r1 h fun e ρ2 w H2 r2 p2 v2 h => ?_
  refine h2 (Hd T ρ2 σ) H2 v w d e _ _ (fun a => r2.hdDom) (v1.mono p2.fz) v2 h fun z u H3 e3 v3 h => ?_
  cases v3 with
  | bl q => exact ⟨q, rfl, k _ _ _ (r2.grow e3) ((p1.trans p2).trans (.grow e3)) h⟩
  | _ => exact False.elim h
def dTNot (f : DT) : DT := fun ρ Q => f ρ fun b ρ1 => Q (!b) ρ1
variable {gA gB : DT}
theorem jt_not (ha : JT X a gA) : JT X (.UnaryOp .Not a pos) (dTNot gA) := by
  obtain ⟨ta, pa, ka⟩ := ha.ex
  refine ⟨_, pt_not pa, fun T ρ σ H QD Q r h k => ?_⟩
  exact ka T ρ σ H _ _ r h fun d ρ1 H1 r1 p1 h => k _ _ _ r1 p1 h
def dTAnd (f g : DT) : DT := fun ρ Q => f ρ fun b ρ1 => if b = true then g ρ1 Q else Q false ρ1
def dTOr (f g : DT) : DT := fun ρ Q => f ρ fun b ρ1 => if b = true then Q true ρ1 else g ρ1 Q
structure JW (X : Cx) (e : Expr) (f : DT) : Prop where
  ex : ∃ t, PW X e t ∧ ∀ (T : Addr → Prop) (ρ : Env) (σ : L2.St) (H : Hp) (QD : Bool → Env → Prop) (Q : Bool → Hp → Prop), RS X.K T ρ σ H → f ρ QD →
    (∀ b ρ' H', RS X.K T ρ' σ H' → Po ρ σ H ρ' σ H' → QD b ρ' → Q b H') → t σ H Q
theorem JW.jt (h : JW X a gA) : JT X a gA := let ⟨t, p, k⟩ := h.ex; ⟨t, p.pt, k⟩
theorem jw_and1 (ha : JT X a gA) : JW X (.BoolOp .And [a] pos) gA := let ⟨t, p, k⟩ := ha.ex; ⟨t, pw_and1 p, k⟩
theorem jw_or1 (ha : JT X a gA) : JW X (.BoolOp .Or [a] pos) gA := let ⟨t, p, k⟩ := ha.ex; ⟨t, pw_or1 p, k⟩
theorem jw_and (ha : JT X a gA) (hb : JW X (.BoolOp .And (b :: rest) pos) gB) : JW X (.BoolOp .And (a :: b :: rest) pos) (dTAnd gA gB) := by
  obtain ⟨ta, pa, ka⟩ := ha.ex
  obtain ⟨tb, pb, kb⟩ := hb.ex
  refine ⟨_, pw_and pa pb, fun T ρ σ H QD Q r h k => ?_⟩
  refine ka T ρ σ H _ _ r h fun b ρ1 H1 r1 p1 h => ?_
  cases b with
  | true => exact kb T ρ1 σ H1 _ _ r1 h fun e ρ2 H2 r2 p2 h => k _ _ _ r2 (p1.trans p2) h
  | false => exact k _ _ _ r1 p1 h
theorem jw_or (ha : JT X a gA) (hb : JW X (.BoolOp .Or (b :: rest) pos) gB) : JW X (.BoolOp .Or (a :: b :: rest) pos) (dTOr gA gB) := by
  obtain ⟨ta, pa, ka⟩ := ha.ex
  obtain ⟨tb, pb, kb⟩ := hb.ex
  refine ⟨_, pw_or pa pb, fun T ρ σ H QD Q r h k => ?_⟩
  refine ka T ρ σ H _ _ r h fun b ρ1 H1 r1 p1 h => ?_
  cases b with
  | true => exact k _ _ _ r1 p1 h
  | false => exact kb T ρ1 σ H1 _ _ r1 h fun e ρ2 H2 r2 p2 h => k _ _ _ r2 (p1.trans p2) h
def dIfE (g : DT) (fa fb : DE) : DE := fun ρ Q => g ρ fun b ρ1 => if b = true then fa ρ1 Q else fb ρ1 Q
theorem je_if (hc : JT X c gA) (ha : JE X a fa) (hb : JE X b fb) : JE X (.IfExp c a b pos) (dIfE gA fa fb) := by
  obtain ⟨tc, pc, kc⟩ := hc.ex
  obtain ⟨ta, pa, ka⟩ := ha.ex
  obtain ⟨tb, pb, kb⟩ := hb.ex
  refine ⟨_, pe_ifExp pc pa pb, fun T ρ σ H QD Q r h k => ?_⟩
  refine kc T ρ σ H _ _ r h fun b ρ1 H1 r1 p1 h => ?_
  cases b with
  | true => exact ka T ρ1 σ H1 _ _ r1 h fun e ρ2 w H2 r2 p2 v2 h => k _ _ _ _ r2 (p1.trans p2) v2 h
  | false => exact kb T ρ1 σ H1 _ _ r1 h fun e ρ2 w H2 r2 p2 v2 h => k _ _ _ _ r2 (p1.trans p2) v2 h
end
end Dn
set_option Elab.async false
set_option linter.all false
set_option maxRecDepth 100000
set_option autoImplicit false
set_option maxHeartbeats 4000000
namespace Dn
open PySem L2 Evl
section
variable {K : PySem.W.Frag} {T T' : Addr → Prop} {ρ ρ' ρ1 : Env} {σ σ' σ1 : L2.St} {H H' H1 : Hp}
def plus (T : Addr → Prop) (p : Addr) : Addr → Prop := fun a => a = p ∨ T a
theorem hide_sub {O O' : Addr → Prop} (h : ∀ a, O' a → O a) : Ex (hide O H) (hide O' H) := fun a o e => hide_some.2 ⟨fun w => (hide_some.1 e).1 (h a w), (hide_some.1 e).2⟩
theorem RS.sub (r : RS K T ρ σ H) (h : ∀ a, T' a → T a) : RS K T' ρ σ H := by
  have e : Ex (hide (Hd T ρ σ) H) (hide (Hd T' ρ σ) H) := hide_sub fun a w => w.elim (fun t => .inl (h a t)) .inr
  refine ⟨r.len, fun i d q => ?_, fun i m q => ?_, r.inj, fun a t => r.dis a (h a t), fun a t => r.dom a (h a t), r.tag⟩
  · obtain ⟨v, h1, h2⟩ := r.im i d q; exact ⟨v, h1, h2.mono e⟩
  · obtain ⟨a, o, h1, h2, h3⟩ := r.ow i m q; exact ⟨a, o, h1, h2, h3.mono e⟩
theorem RS.unplus {p : Addr} (r : RS K (plus T p) ρ σ H) : RS K T ρ σ H := r.sub fun _ t => .inr t
theorem hd_unplus {p : Addr} : Ex (hide (Hd (plus T p) ρ σ) H) (hide (Hd T ρ σ) H) := hide_sub fun a w => w.elim (fun t => .inl (.inr t)) .inr
/-- a new object, kept aside -/
theorem RS.laid {p : Addr} {o : HO} (r : RS K T ρ σ H) (h : H p = none) (hnt : ∀ xs, o ≠ .tup xs := by intro _ z; cases z) : RS K (plus T p) ρ σ (upd H p o) := by
  have r1 := r.grow (Ex.new (o := o) h)
  have e : Ex (hide (Hd T ρ σ) H) (hide (Hd (plus T p) ρ σ) (upd H p o)) := fun a u w => by
    obtain ⟨n, w⟩ := hide_some.1 w
    refine hide_some.2 ⟨?_, by rw [upd_ne (ne_of_none w h)]; exact w⟩
    rintro ((t | t) | t)
    · subst t; rw [h] at w; cases w
    · exact n (.inl t)
    · exact n (.inr t)
  refine ⟨r.len, fun i d q => ?_, fun i m q => ?_, r.inj, fun a t => ?_, fun a t => ?_, r.tag⟩
  · obtain ⟨v, h1, h2⟩ := r.im i d q; exact ⟨v, h1, h2.mono e⟩
  · obtain ⟨a, u, h1, h2, h3⟩ := r.ow i m q; exact ⟨a, u, h1, by rw [upd_ne (ne_of_none h2 h)]; exact h2, h3.mono e⟩
  · rcases t with t | t
    · subst t; intro w; exact r.ownDom w h
    · exact r.dis a t
  · rcases t with t | t
    · subst t; exact Lv.at hnt
    · exact r1.dom a t
theorem hd_laid {p : Addr} {o : HO} (h : H p = none) : Ex (hide (Hd T ρ σ) H) (hide (Hd (plus T p) ρ σ) (upd H p o)) := fun a u w => by
  obtain ⟨n, w⟩ := hide_some.1 w
  refine hide_some.2 ⟨?_, by rw [upd_ne (ne_of_none w h)]; exact w⟩
  rintro ((t | t) | t)
  · subst t; rw [h] at w; cases w
  · exact n (.inl t)
  · exact n (.inr t)
theorem getset {α : Type} {l : List (Option α)} {i j : Nat} {x y : Option α} (h : (l.set i x)[j]? = some y) : (i = j ∧ i < l.length ∧ y = x) ∨ (i ≠ j ∧ l[j]? = some y) := by
  by_cases e : i = j
  · subst e
    by_cases l1 : i < l.length
    · rw [List.getElem?_set_self l1] at h; cases h; exact .inl ⟨rfl, l1, rfl⟩
    · rw [List.getElem?_eq_none_iff.mpr (by rw [List.length_set]; omega)] at h; cases h
  · rw [List.getElem?_set_ne e] at h; exact .inr ⟨e, h⟩
theorem own_setIm {i : Nat} {d : D} {v : Option V} {a : Addr} (w : Own (ρ.set i (some (SV.im d))) (σ.set i v) a) : Own ρ σ a := by
  obtain ⟨j, m, h1, h2⟩ := w
  rcases getset h1 with ⟨_, _, h⟩ | ⟨ne, h⟩
  · cases h
  · rw [List.getElem?_set_ne ne] at h2; exact ⟨j, m, h, h2⟩
theorem RS.setIm {i : Nat} {v : V} {d : D} (r : RS K T ρ σ H) (h : Rp K (hide (Hd T ρ σ) H) v d) : RS K T (ρ.set i (some (SV.im d))) (σ.set i (some v)) H := by
  have e : Ex (hide (Hd T ρ σ) H) (hide (Hd T (ρ.set i (some (SV.im d))) (σ.set i (some v))) H) := hide_sub fun a w => w.elim .inl fun w => .inr (own_setIm w)
  refine ⟨by simp [r.len], fun j d' q => ?_, fun j m q => ?_, fun j k m m' a q1 q2 q3 q4 => ?_, fun a t w => r.dis a t (own_setIm w), r.dom, fun j p m a q1 q2 => ?_⟩
  · rcases getset q with ⟨e1, l, h1⟩ | ⟨ne, h1⟩
    · cases h1; subst e1
      exact ⟨v, List.getElem?_set_self (by rw [← r.len]; exact l), h.mono e⟩
    · obtain ⟨u, h2, h3⟩ := r.im j d' h1
      exact ⟨u, by rw [List.getElem?_set_ne ne]; exact h2, h3.mono e⟩
  · rcases getset q with ⟨_, _, h1⟩ | ⟨ne, h1⟩
    · cases h1
    · obtain ⟨a, o, h2, h3, h4⟩ := r.ow j m h1
      exact ⟨a, o, by rw [List.getElem?_set_ne ne]; exact h2, h3, h4.mono e⟩
  · rcases getset q1 with ⟨_, _, h1⟩ | ⟨n1, h1⟩
    · cases h1
    · rcases getset q2 with ⟨_, _, h2⟩ | ⟨n2, h2⟩
      · cases h2
      · rw [List.getElem?_set_ne n1] at q3; rw [List.getElem?_set_ne n2] at q4
        exact r.inj j k m m' a h1 h2 q3 q4
  · rcases getset q1 with ⟨_, _, h1⟩ | ⟨n1, h1⟩
    · cases h1
    · rw [List.getElem?_set_ne n1] at q2; exact r.tag j p m a h1 q2
theorem Po.setIm {i : Nat} {v : V} {d : D} : Po ρ σ H (ρ.set i (some (SV.im d))) (σ.set i (some v)) H := ⟨fun _ _ _ h => h, fun a w => .inl (own_setIm w), fun _ h => h⟩
theorem own_setOw {i : Nat} {m : MO} {p a : Addr} (w : Own (ρ.set i (some (SV.ow m))) (σ.set i (some (V.ref p))) a) : a = p ∨ Own ρ σ a := by
  obtain ⟨j, m', h1, h2⟩ := w
  rcases getset h1 with ⟨e, _, h⟩ | ⟨ne, h⟩
  · subst e
    rcases getset h2 with ⟨_, _, h⟩ | ⟨ne, _⟩
    · cases h; exact .inl rfl
    · exact absurd rfl ne
  · rw [List.getElem?_set_ne ne] at h2; exact .inr ⟨j, m', h, h2⟩
theorem RS.setOw {i : Nat} {p : Addr} {m : MO} {o : HO} (r : RS K (plus T p) ρ σ H) (ho : H p = some o) (h : RpO K (hide (Hd (plus T p) ρ σ) H) m o) (hT : ¬ T p) (hm : ∀ q m', m = .par q m' → p = q) : RS K T (ρ.set i (some (SV.ow m))) (σ.set i (some (V.ref p))) H := by
  have hp : ¬ Own ρ σ p := r.dis p (.inl rfl)
  have e : Ex (hide (Hd (plus T p) ρ σ) H) (hide (Hd T (ρ.set i (some (SV.ow m))) (σ.set i (some (V.ref p)))) H) := hide_sub fun a w => w.elim (fun t => .inl (.inr t)) fun w => (own_setOw w).elim (fun q => .inl (.inl q)) .inr
  refine ⟨by simp [r.len], fun j d' q => ?_, fun j m' q => ?_, fun j k m1 m2 a q1 q2 q3 q4 => ?_, fun a t w => ?_, fun a t => r.dom a (.inr t), fun j q m1 a q1 q2 => ?_⟩
  · rcases getset q with ⟨_, _, h1⟩ | ⟨ne, h1⟩
    · cases h1
    · obtain ⟨u, h2, h3⟩ := r.im j d' h1
      exact ⟨u, by rw [List.getElem?_set_ne ne]; exact h2, h3.mono e⟩
  · rcases getset q with ⟨e1, l, h1⟩ | ⟨ne, h1⟩
    · cases h1; subst e1
      exact ⟨p, o, List.getElem?_set_self (by rw [← r.len]; exact l), ho, h.mono e⟩
    · obtain ⟨a, u, h2, h3, h4⟩ := r.ow j m' h1
      exact ⟨a, u, by rw [List.getElem?_set_ne ne]; exact h2, h3, h4.mono e⟩
  · rcases getset q1 with ⟨e1, l1, h1⟩ | ⟨n1, h1⟩
    · rcases getset q2 with ⟨e2, _, h2⟩ | ⟨n2, h2⟩
      · exact e1.symm.trans e2
      · subst e1
        rcases getset q3 with ⟨_, _, z⟩ | ⟨z, _⟩
        · cases z; rw [List.getElem?_set_ne n2] at q4; exact absurd ⟨k, m2, h2, q4⟩ hp
        · exact absurd rfl z
    · rcases getset q2 with ⟨e2, _, h2⟩ | ⟨n2, h2⟩
      · subst e2
        rcases getset q4 with ⟨_, _, z⟩ | ⟨z, _⟩
        · cases z; rw [List.getElem?_set_ne n1] at q3; exact absurd ⟨j, m1, h1, q3⟩ hp
        · exact absurd rfl z
      · rw [List.getElem?_set_ne n1] at q3; rw [List.getElem?_set_ne n2] at q4
        exact r.inj j k m1 m2 a h1 h2 q3 q4
  · rcases own_setOw w with w | w
    · subst w; exact hT t
    · exact r.dis a (.inr t) w
  · rcases getset q1 with ⟨e1, _, h1⟩ | ⟨n1, h1⟩
    · cases h1; subst e1
      rcases getset q2 with ⟨_, _, h2⟩ | ⟨z, _⟩
      · cases h2; exact hm _ _ rfl
      · exact absurd rfl z
    · rw [List.getElem?_set_ne n1] at q2; exact r.tag j q m1 a h1 q2
theorem Po.setOw {i : Nat} {p : Addr} {m : MO} (q : Po ρ σ H ρ1 σ1 H1) (hp : H p = none) : Po ρ σ H (ρ1.set i (some (SV.ow m))) (σ1.set i (some (V.ref p))) H1 :=
  ⟨q.keep, fun a w => (own_setOw w).elim (fun e => by subst e; exact .inr hp) (q.own a), q.dom⟩
/-- the owned object at slot i is changed -/
theorem RS.write {i : Nat} {p : Addr} {m m' : MO} {o' : HO} (r : RS K T ρ σ H) (hm : ρ[i]? = some (some (SV.ow m))) (hp : σ[i]? = some (some (V.ref p))) (h : RpO K (hide (Hd T ρ σ) H) m' o') (ht : ∀ q m1, m' = .par q m1 → p = q) : RS K T (ρ.set i (some (SV.ow m'))) σ (upd H p o') := by
  have hO : Own ρ σ p := ⟨i, m, hm, hp⟩
  have hw : ∀ a, Own (ρ.set i (some (SV.ow m'))) σ a → Own ρ σ a := fun a ⟨j, m1, h1, h2⟩ => by
    rcases getset h1 with ⟨e, _, _⟩ | ⟨_, h1⟩
    · subst e; rw [hp] at h2; cases h2; exact hO
    · exact ⟨j, m1, h1, h2⟩
  have e : Ex (hide (Hd T ρ σ) H) (hide (Hd T (ρ.set i (some (SV.ow m'))) σ) (upd H p o')) := fun a u w => by
    obtain ⟨n, w⟩ := hide_some.1 w
    have ne : a ≠ p := fun z => n (.inr (z ▸ hO))
    refine hide_some.2 ⟨fun z => n (z.elim .inl fun z => .inr (hw a z)), by rw [upd_ne ne]; exact w⟩
  have il : i < ρ.length := (List.getElem?_eq_some_iff.mp hm).1
  refine ⟨by simp [r.len], fun j d' q => ?_, fun j m1 q => ?_, fun j k m1 m2 a q1 q2 q3 q4 => ?_, fun a t w => r.dis a t (hw a w), fun a t => ?_, fun j q m1 a q1 q2 => ?_⟩
  · rcases getset q with ⟨_, _, h1⟩ | ⟨ne, h1⟩
    · cases h1
    · obtain ⟨u, h2, h3⟩ := r.im j d' h1
      exact ⟨u, h2, h3.mono e⟩
  · rcases getset q with ⟨e1, l, h1⟩ | ⟨ne, h1⟩
    · cases h1; subst e1
      exact ⟨p, o', hp, upd_same, h.mono e⟩
    · obtain ⟨a, u, h2, h3, h4⟩ := r.ow j m1 h1
      have ne' : a ≠ p := fun z => by subst z; exact ne (r.inj i j m m1 a hm h1 hp h2)
      exact ⟨a, u, h2, by rw [upd_ne ne']; exact h3, h4.mono e⟩
  · have back : ∀ (j : Nat) (m1 : MO), (ρ.set i (some (SV.ow m')))[j]? = some (some (SV.ow m1)) → ∃ m2 : MO, ρ[j]? = some (some (SV.ow m2)) := fun j m1 q => by
      rcases getset q with ⟨e, _, _⟩ | ⟨_, h⟩
      · subst e; exact ⟨m, hm⟩
      · exact ⟨m1, h⟩
    obtain ⟨_, h1⟩ := back j m1 q1
    obtain ⟨_, h2⟩ := back k m2 q2
    exact r.inj j k _ _ a h1 h2 q3 q4
  · have ne : a ≠ p := fun z => by subst z; exact r.dis a t hO
    exact (r.dom a t).upd ne
  · rcases getset q1 with ⟨e1, _, h1⟩ | ⟨_, h1⟩
    · cases h1; subst e1; rw [hp] at q2; cases q2; exact ht _ _ rfl
    · exact r.tag j q m1 a h1 q2
theorem Po.write {i : Nat} {p : Addr} {m m' : MO} {o' : HO} (hm : ρ[i]? = some (some (SV.ow m))) (hp : σ[i]? = some (some (V.ref p))) : Po ρ σ H (ρ.set i (some (SV.ow m'))) σ (upd H p o') := by
  have hO : Own ρ σ p := ⟨i, m, hm, hp⟩
  refine ⟨fun a o n h => by rw [upd_ne (fun z => n (by subst z; exact hO))]; exact h, fun a ⟨j, m1, h1, h2⟩ => ?_, fun a h => ?_⟩
  · rcases getset h1 with ⟨e, _, _⟩ | ⟨_, h1⟩
    · subst e; rw [hp] at h2; cases h2; exact .inl hO
    · exact .inl ⟨j, m1, h1, h2⟩
  · by_cases e : a = p
    · subst e; rw [upd_same]; simp
    · rw [upd_ne e]; exact h
/-- an owned object is kept no longer: it stands as it is -/
theorem own_freeze {i : Nat} {d : D} {a : Addr} (w : Own (ρ.set i (some (SV.im d))) σ a) : Own ρ σ a := by
  obtain ⟨j, m, h1, h2⟩ := w
  rcases getset h1 with ⟨_, _, h⟩ | ⟨ne, h⟩
  · cases h
  · exact ⟨j, m, h, h2⟩
theorem RS.freeze {i : Nat} {ds : List D} (r : RS K T ρ σ H) (hm : ρ[i]? = some (some (SV.ow (.lst ds)))) : RS K T (ρ.set i (some (SV.im (.list ds)))) σ H := by
  obtain ⟨p, o, hp, ho, hr⟩ := r.ow i _ hm
  have hO : Own ρ σ p := ⟨i, _, hm, hp⟩
  have e : Ex (hide (Hd T ρ σ) H) (hide (Hd T (ρ.set i (some (SV.im (.list ds)))) σ) H) := hide_sub fun a w => w.elim .inl fun w => .inr (own_freeze w)
  have vis : hide (Hd T (ρ.set i (some (SV.im (.list ds)))) σ) H p = some o := hide_some.2 ⟨fun w => by
    rcases w with w | ⟨j, m, h1, h2⟩
    · exact r.dis p w hO
    · rcases getset h1 with ⟨_, _, h⟩ | ⟨ne, h⟩
      · cases h
      · exact ne (r.inj i j _ m p hm h hp h2), ho⟩
  refine ⟨by simp [r.len], fun j d' q => ?_, fun j m1 q => ?_, fun j k m1 m2 a q1 q2 q3 q4 => ?_, fun a t w => r.dis a t (own_freeze w), r.dom, fun j q m1 a q1 q2 => ?_⟩
  · rcases getset q with ⟨e1, l, h1⟩ | ⟨ne, h1⟩
    · cases h1; subst e1
      cases o with
      | lst vs => exact ⟨.ref p, hp, .lst vis (RpAll.mono e hr)⟩
      | _ => exact False.elim hr
    · obtain ⟨u, h2, h3⟩ := r.im j d' h1
      exact ⟨u, h2, h3.mono e⟩
  · rcases getset q with ⟨_, _, h1⟩ | ⟨ne, h1⟩
    · cases h1
    · obtain ⟨a, u, h2, h3, h4⟩ := r.ow j m1 h1
      exact ⟨a, u, h2, h3, h4.mono e⟩
  · rcases getset q1 with ⟨_, _, h1⟩ | ⟨_, h1⟩
    · cases h1
    · rcases getset q2 with ⟨_, _, h2⟩ | ⟨_, h2⟩
      · cases h2
      · exact r.inj j k m1 m2 a h1 h2 q3 q4
  · rcases getset q1 with ⟨_, _, h1⟩ | ⟨_, h1⟩
    · cases h1
    · exact r.tag j q m1 a h1 q2
theorem Po.freeze {i : Nat} {d : D} : Po ρ σ H (ρ.set i (some (SV.im d))) σ H := ⟨fun _ _ _ h => h, fun a w => .inl (own_freeze w), fun _ h => h⟩
end
end Dn
set_option Elab.async false
set_option linter.all false
set_option maxRecDepth 100000
set_option autoImplicit false
set_option maxHeartbeats 4000000
namespace Dn
open PySem L2 Evl
/-! ### values that may be new objects -/
/-- a value frozen, or a new object that is kept aside -/
def Fits (K : PySem.W.Frag) (T : Addr → Prop) (ρ : Env) (σ : L2.St) (H0 H : Hp) (v : V) : SV → Prop
  | .im d => RS K T ρ σ H ∧ Rp K (hide (Hd T ρ σ) H) v d
  | .ow m => ∃ p o, v = .ref p ∧ H0 p = none ∧ H p = some o ∧ RS K (plus T p) ρ σ H ∧ RpO K (hide (Hd (plus T p) ρ σ) H) m o ∧ ∀ q m', m = .par q m' → False
abbrev DX := Env → (SV → Env → Prop) → Prop
structure JX (X : Cx) (e : Expr) (f : DX) : Prop where
  ex : ∃ t, PE X e t ∧ ∀ (T : Addr → Prop) (ρ : Env) (σ : L2.St) (H : Hp) (QD : SV → Env → Prop) (Q : VK), RS X.K T ρ σ H → f ρ QD →
    (∀ d ρ' v H', Fits X.K T ρ' σ H H' v d → Po ρ σ H ρ' σ H' → QD d ρ' → Q v H') → t σ H Q
abbrev DL := Env → (List D → Env → Prop) → Prop
/-- a new list -/
structure JL (X : Cx) (e : Expr) (f : DL) : Prop where
  ex : ∃ t, PE X e t ∧ ∀ (T : Addr → Prop) (ρ : Env) (σ : L2.St) (H : Hp) (QD : List D → Env → Prop) (Q : VK), RS X.K T ρ σ H → f ρ QD →
    (∀ ds ρ' p vs H', H p = none → H' p = some (.lst vs) → RS X.K (plus T p) ρ' σ H' → RpAll X.K (hide (Hd (plus T p) ρ' σ) H') vs ds → Po ρ σ H ρ' σ H' → QD ds ρ' → Q (.ref p) H') → t σ H Q
section
variable {X : Cx} {a b c e : Expr} {fa fb fc : DE} {pos : Pos} {es : List Expr}
def xIm (f : DE) : DX := fun ρ Q => f ρ fun d => Q (.im d)
def xOw (f : DL) : DX := fun ρ Q => f ρ fun ds => Q (.ow (.lst ds))
def dOfL (f : DL) : DE := fun ρ Q => f ρ fun ds => Q (.list ds)
theorem JE.jx (h : JE X e fa) : JX X e (xIm fa) := let ⟨t, p, k⟩ := h.ex; ⟨t, p, fun T ρ σ H QD Q r h q => k T ρ σ H _ _ r h fun d ρ' v H' r' p' v' h' => q (SV.im d) ρ' v H' ⟨r', v'⟩ p' h'⟩
theorem JL.jx {f : DL} (h : JL X e f) : JX X e (xOw f) := let ⟨t, p, k⟩ := h.ex; ⟨t, p, fun T ρ σ H QD Q r h q => k T ρ σ H _ _ r h fun ds ρ' p vs H' n s r' v' p' h' => q (SV.ow (.lst ds)) ρ' (.ref p) H' ⟨p, .lst vs, rfl, n, s, r', v', fun _ _ z => nomatch z⟩ p' h'⟩
theorem JL.je {f : DL} (h : JL X e f) : JE X e (dOfL f) := by
  obtain ⟨t, p, k⟩ := h.ex
  refine ⟨t, p, fun T ρ σ H QD Q r h q => k T ρ σ H _ _ r h fun ds ρ' p vs H' n s r' v' p' h' => ?_⟩
  refine q _ _ _ _ r'.unplus p' (.lst (hide_some.2 ⟨?_, s⟩) (v'.mono hd_unplus)) h'
  rintro (w | w)
  · exact (r.dom p w).1 n
  · exact r'.dis p (.inl rfl) w

/-! ### argument lists, displays -/
def aNil : DA := fun ρ Q => Q [] ρ
def aCons (f : DE) (g : DA) : DA := fun ρ Q => f ρ fun d ρ1 => g ρ1 fun ds ρ2 => Q (d :: ds) ρ2
theorem ja_nil : JA X [] aNil := ⟨tNil, pa_nil, fun T ρ σ H QD Q r h q => q _ _ _ _ r .refl .nil h⟩
theorem ja_cons {g : DA} (ha : JE X e fa) (hr : JA X es g) (hs : starEach (e :: es) X.env = (false, eval e X.env) :: starEach es X.env := by rfl) : JA X (e :: es) (aCons fa g) := by
  obtain ⟨ta, pa, ka⟩ := ha.ex
  obtain ⟨tr, pr, kr⟩ := hr.ex
  refine ⟨_, pa_cons pa pr hs, fun T ρ σ H QD Q r h q => ?_⟩
  refine ka T ρ σ H _ _ r h fun d ρ1 v H1 r1 p1 v1 h => kr T ρ1 σ H1 _ _ r1 h fun ds ρ2 vs H2 r2 p2 v2 h => ?_
  exact q _ _ _ _ r2 (p1.trans p2) (.cons (v1.mono p2.fz) v2) h
def dTup (g : DA) : DE := fun ρ Q => g ρ fun ds ρ1 => ds.length ≤ 16777216 ∧ Q (.tuple ds) ρ1
def lLst (g : DA) : DL := fun ρ Q => g ρ fun ds ρ1 => ds.length ≤ 16777216 ∧ Q ds ρ1
theorem je_tup {g : DA} {x1} (h : JA X es g) : JE X (.Tuple es x1 pos) (dTup g) := by
  obtain ⟨t, p, k⟩ := h.ex
  refine ⟨_, pe_tup p, fun T ρ σ H QD Q r h q => k T ρ σ H _ _ r h fun ds ρ' vs H' r' p' v' h' => ⟨by rw [v'.length]; exact h'.1, fun l hl => ?_⟩⟩
  exact q _ _ _ _ (r'.grow (Ex.new hl)) (p'.trans (.grow (Ex.new hl))) (rp_newT (fun a => r'.hdDom) hl v') h'.2
theorem jl_lst {g : DA} (h : JA X es g) : JL X (.List es pos) (lLst g) := by
  obtain ⟨t, p, k⟩ := h.ex
  refine ⟨_, pe_lst p, fun T ρ σ H QD Q r h q => k T ρ σ H _ _ r h fun ds ρ' vs H' r' p' v' h' => ⟨by rw [v'.length]; exact h'.1, fun l hl => ?_⟩⟩
  refine q _ _ _ _ _ ?_ upd_same (r'.laid hl) (v'.mono (hd_laid hl)) (p'.trans (.grow (Ex.new hl))) h'.2
  cases z : H l with
  | none => rfl
  | some o => exact absurd hl (p'.dom l (by rw [z]; simp))

/-! ### subscripts -/
def seqD : D → Option (List D)
  | .list ds => some ds
  | .tuple ds => some ds
  | .dict [(.none, .tuple ds)] => some ds
  | _ => none
theorem seq_dk (kvs : List (Key × D)) : seqD (.dict (dkD kvs)) = none := by
  cases kvs with
  | nil => rfl
  | cons p r => obtain ⟨k, d⟩ := p; cases k <;> rfl
theorem seq_rp {K : PySem.W.Frag} {O : Addr → Prop} {H : Hp} {v : V} {d : D} {ds : List D} (r : Rp K (hide O H) v d) (h : seqD d = some ds) : ∃ p xs, v = .ref p ∧ (SqL K H p xs ∨ SqT K H p xs) ∧ RpAll K (hide O H) xs ds := by
  cases r
  case dct kws kvs dd h1 h2 h3 =>
    subst h3
    cases kvs with
    | nil => simp [seqD, dkD] at h
    | cons p r => obtain ⟨k, d⟩ := p; cases k <;> simp [seqD, dkD, keyB] at h
  all_goals simp only [seqD, Option.some.injEq, reduceCtorEq] at h
  · subst h; exact ⟨_, _, rfl, .inl (.inl (.inl (at_of (by assumption)))), by assumption⟩
  · subst h; exact ⟨_, _, rfl, .inr (sqt_of (by assumption)), by assumption⟩
  · subst h; exact ⟨_, _, rfl, .inl (sql_of (by assumption)), by assumption⟩
theorem atI_rp {K : PySem.W.Frag} {G : Hp} {vs : List V} {ds : List D} {i : Int} {d : D} (r : RpAll K G vs ds) (h : atI ds i = some d) : ∃ v, atI vs i = some v ∧ Rp K G v d := by
  unfold atI at h ⊢
  rw [r.length]
  cases e : ixN ds.length i with
  | none => rw [e] at h; cases h
  | some j =>
    rw [e] at h
    exact r.get (show ds[j]? = some d from h)
def dIx : D → D → (D → Prop) → Prop := fun x y Q => match seqD x, y with
  | some ds, .int i => ∃ d, atI ds i = some d ∧ Q d
  | _, _ => False
theorem ix_two {O : Addr → Prop} {H : Hp} {x y : V} {d e : D} {QD : D → Prop} {Q : VK} (rx : Rp X.K (hide O H) x d) (ry : Rp X.K (hide O H) y e) (h : dIx d e QD)
    (k : ∀ z v H', Ex H H' → Rp X.K (hide O H') v z → QD z → Q v H') : rIxL X.K x y H Q ∨ rIxT X.K x y H Q := by
  unfold dIx at h
  split at h
  · rename_i ds i e1
    obtain ⟨z, h1, h2⟩ := h
    obtain ⟨p, xs, rfl, hs, r⟩ := seq_rp rx e1
    obtain ⟨v, h3, h4⟩ := atI_rp r h1
    cases ry
    rcases hs with hs | hs
    · exact .inl ⟨_, _, _, _, rfl, rfl, hs, h3, k _ _ H (.refl H) h4 h2⟩
    · exact .inr ⟨_, _, _, _, rfl, rfl, hs, h3, k _ _ H (.refl H) h4 h2⟩
  · exact False.elim h
theorem je_ix (ha : JE X a fa) (hb : JE X b fb) (hs : PlainIx b := by exact fun _ _ => rfl) : JE X (.Subscript a b pos) (dBin dIx fa fb) :=
  je_two (fun O H x y d e QD Q hO rx ry h k => ix_two rx ry h k) ha hb fun _ _ pa pb => pe_ix (.or ix_list ix_tup) pa pb hs
/-- an owned list's item -/
def dIxO (i : Nat) (fb : DE) : DE := fun ρ Q => (∃ m, ρ[i]? = some (some (SV.ow m))) ∧ fb ρ fun y ρ1 => match ρ1[i]?, y with
  | some (some (.ow (.lst ds))), .int j => ∃ d, atI ds j = some d ∧ Q d ρ1
  | _, _ => False
theorem je_ixO {i : Nat} {x : Str} {px : Pos} (hN : X.N[i]? = some x) (hv : Vis X.env.scope x) (hb : JE X b fb) (hs : PlainIx b := by exact fun _ _ => rfl) (hd : (x == ("__debug__" : Str)) = false := by decide) (hcd : (x == ("__classdict__" : Str)) = false := by decide) :
    JE X (.Subscript (.Name x px) b pos) (dIxO i fb) := by
  obtain ⟨tb, pb, kb⟩ := hb.ex
  refine ⟨_, pe_ix ix_list (pe_var hN hv hd hcd) pb hs, fun T ρ σ H QD Q r h q => ?_⟩
  obtain ⟨⟨m, hm⟩, h⟩ := h
  obtain ⟨p, o, hp, _, _⟩ := r.ow i m hm
  refine ⟨_, hp, kb T ρ σ H _ _ r h fun y ρ1 v H1 r1 p1 v1 h => ?_⟩
  split at h
  · rename_i ds j e1
    obtain ⟨d, h1, h2⟩ := h
    obtain ⟨p', o', hp', ho', hr'⟩ := r1.ow i _ e1
    rw [hp] at hp'; cases hp'
    cases o' with
    | lst vs =>
      obtain ⟨u, h3, h4⟩ := atI_rp (show RpAll _ _ vs ds from hr') h1
      cases v1
      exact ⟨_, _, _, _, rfl, rfl, .inl (.inl ho'), h3, q _ _ _ _ r1 p1 h4 h2⟩
    | _ => exact False.elim hr'
  · exact False.elim h

/-! ### slices -/
def cutD (xs : List D) (lo hi : Option Int) : List D := (xs.drop (HT.sIx xs.length 0 lo)).take (HT.sIx xs.length xs.length hi - HT.sIx xs.length 0 lo)
theorem cut_rp {K : PySem.W.Frag} {G : Hp} {vs : List V} {ds : List D} (r : RpAll K G vs ds) (lo hi : Option Int) : RpAll K G (cutV vs lo hi) (cutD ds lo hi) := by
  unfold cutV cutD; rw [r.length]; exact (r.drop _).take _
abbrev DO := Env → (Option Int → Env → Prop) → Prop
structure JO (X : Cx) (e : Option Expr) (f : DO) : Prop where
  ex : ∃ t, PO X e t ∧ ∀ (T : Addr → Prop) (ρ : Env) (σ : L2.St) (H : Hp) (QD : Option Int → Env → Prop) (Q : Option Int → Hp → Prop), RS X.K T ρ σ H → f ρ QD →
    (∀ d ρ' H', RS X.K T ρ' σ H' → Po ρ σ H ρ' σ H' → QD d ρ' → Q d H') → t σ H Q
def oNone : DO := fun ρ Q => Q none ρ
def oSome (f : DE) : DO := fun ρ Q => f ρ fun d ρ1 => match d with
  | .int i => Q (some i) ρ1
  | _ => False
theorem jo_none : JO X none oNone := ⟨tNoPart, po_none, fun T ρ σ H QD Q r h q => q _ _ _ r .refl h⟩
theorem jo_some (ha : JE X a fa) : JO X (some a) (oSome fa) := by
  obtain ⟨ta, pa, ka⟩ := ha.ex
  refine ⟨_, po_some pa, fun T ρ σ H QD Q r h q => ka T ρ σ H _ _ r h fun d ρ1 v H1 r1 p1 v1 h => ?_⟩
  cases v1 with
  | int i => exact ⟨i, rfl, q _ _ _ r1 p1 h⟩
  | _ => exact False.elim h
def dSl (fa : DE) (lo hi : DO) : DE := fun ρ Q => fa ρ fun x ρ1 => lo ρ1 fun l ρ2 => hi ρ2 fun u ρ3 => match x with
  | .list ds => Q (.list (cutD ds l u)) ρ3
  | .tuple ds => Q (.tuple (cutD ds l u)) ρ3
  | _ => False
theorem sl_or {r r' : V → Option Int → Option Int → Hp → VK → Prop} (h : SlR X r) (h' : SlR X r') : SlR X (fun x lo hi H Q => r x lo hi H Q ∨ r' x lo hi H Q) := by
  intro pins s σ H x v vl vu lo hi sl Q I rx hs pl pu q
  rcases q with q | q
  · exact h pins s σ H x v vl vu lo hi sl Q I rx hs pl pu q
  · exact h' pins s σ H x v vl vu lo hi sl Q I rx hs pl pu q
theorem cut_whole {xs : List D} {lo hi : Option Int} (h : HT.sIx xs.length 0 lo = 0 ∧ HT.sIx xs.length xs.length hi = xs.length) : cutD xs lo hi = xs := by
  unfold cutD; rw [h.1, h.2]; simp
theorem je_sl {lo hi : Option Expr} {fl fh : DO} {p2 : Pos} (ha : JE X a fa) (hl : JO X lo fl) (hh : JO X hi fh) : JE X (.Subscript a (.Slice lo hi none p2) pos) (dSl fa fl fh) := by
  obtain ⟨ta, pa, ka⟩ := ha.ex
  obtain ⟨tl, pl, kl⟩ := hl.ex
  obtain ⟨th, ph, kh⟩ := hh.ex
  refine ⟨_, pe_slice (sl_or sl_list sl_tupA) pa pl ph, fun T ρ σ H QD Q r h q => ka T ρ σ H _ _ r h fun d ρ1 v H1 r1 p1 v1 h => kl T ρ1 σ H1 _ _ r1 h fun l ρ2 H2 r2 p2 h => kh T ρ2 σ H2 _ _ r2 h fun u ρ3 H3 r3 p3 h => ?_⟩
  have v3 := (v1.mono p2.fz).mono p3.fz
  have p := (p1.trans p2).trans p3
  cases v3 with
  | lst hp rr =>
    exact .inl ⟨_, _, rfl, .inl (.inl (at_of hp)), fun n hn => q _ _ _ _ (r3.grow (Ex.new hn)) (p.trans (.grow (Ex.new hn))) (rp_newL (fun a => r3.hdDom) hn (cut_rp rr l u)) h⟩
  | tup hp rr =>
    refine .inr ⟨_, _, rfl, sqt_of hp, fun w => ?_, fun w n hn => q _ _ _ _ (r3.grow (Ex.new hn)) (p.trans (.grow (Ex.new hn))) (rp_newT (fun a => r3.hdDom) hn (cut_rp rr l u)) h⟩
    rw [rr.length] at w
    dsimp only at h; rw [cut_whole w] at h
    exact q _ _ _ _ r3 p (.tup hp rr) h
  | _ => exact False.elim h
end
end Dn
set_option Elab.async false
set_option linter.all false
set_option maxRecDepth 100000
set_option autoImplicit false
set_option maxHeartbeats 4000000
namespace Dn
open PySem L2 Evl
/-! ### calls -/
section
variable {X : Cx} {a b c e : Expr} {fa fb fc : DE} {pos p : Pos} {es : List Expr} {x : Str}
structure CallD (X : Cx) (f : Value) (op : List D → (D → Prop) → Prop) : Prop where
  ex : ∃ r, CallR X f r ∧ ∀ (O : Addr → Prop) (H : Hp) (vs : List V) (ds : List D) (QD : D → Prop) (Q : VK), (∀ a, O a → H a ≠ none) → RpAll X.K (hide O H) vs ds → op ds QD →
    (∀ z v H', Ex H H' → Rp X.K (hide O H') v z → QD z → Q v H') → r vs H Q
def dCall (op : List D → (D → Prop) → Prop) (g : DA) : DE := fun ρ Q => g ρ fun ds ρ1 => op ds fun z => Q z ρ1
theorem je_callB {id : String} {op : List D → (D → Prop) → Prop} {g : DA} (hc : CallD X (.builtin id) op) (hm : X.mg x = none) (hv : bootBuiltins x = some (.builtin id)) (ha : JA X (e :: es) g) (hg : Gl X x := by rfl) (hn : x ≠ "__name__" := by decide) (hdb : (x == ("__debug__" : Str)) = false := by decide)
    (he : starEach (e :: es) X.env = (false, eval e X.env) :: starEach es X.env := by rfl) (hpl : (backTo pos (starEach es X.env)).any (·.1) = false := by rfl) : JE X (.Call (.Name x p) (e :: es) [] pos) (dCall op g) := by
  obtain ⟨r, h1, h2⟩ := hc.ex
  obtain ⟨t, pa, ka⟩ := ha.ex
  refine ⟨_, pe_callB h1 hg hm hv pa hn hdb he hpl, fun T ρ σ H QD Q r h q => ka T ρ σ H _ _ r h fun ds ρ1 vs H1 r1 p1 v1 h => ?_⟩
  exact h2 (Hd T ρ1 σ) H1 vs ds _ _ (fun a => r1.hdDom) v1 h fun z v H' e v2 h => q _ _ _ _ (r1.grow e) (p1.trans (.grow e)) v2 h
theorem je_callTy {id : String} {op : List D → (D → Prop) → Prop} {g : DA} (hc : CallD X (.type id) op) (hm : X.mg x = none) (hv : bootBuiltins x = some (.type id)) (ha : JA X (e :: es) g) (hg : Gl X x := by rfl) (hn : x ≠ "__name__" := by decide) (hdb : (x == ("__debug__" : Str)) = false := by decide)
    (he : starEach (e :: es) X.env = (false, eval e X.env) :: starEach es X.env := by rfl) (hpl : (backTo pos (starEach es X.env)).any (·.1) = false := by rfl) : JE X (.Call (.Name x p) (e :: es) [] pos) (dCall op g) := by
  obtain ⟨r, h1, h2⟩ := hc.ex
  obtain ⟨t, pa, ka⟩ := ha.ex
  refine ⟨_, pe_callTy h1 hg hm hv pa hn hdb he hpl, fun T ρ σ H QD Q r h q => ka T ρ σ H _ _ r h fun ds ρ1 vs H1 r1 p1 v1 h => ?_⟩
  exact h2 (Hd T ρ1 σ) H1 vs ds _ _ (fun a => r1.hdDom) v1 h fun z v H' e v2 h => q _ _ _ _ (r1.grow e) (p1.trans (.grow e)) v2 h
/-- an owned list is looked at: a plain value comes -/
def isSc : D → Bool
  | .list _ => false
  | .tuple _ => false
  | .dict _ => false
  | _ => true
theorem sc_rp {K : PySem.W.Frag} {G G' : Hp} {v : V} {d : D} (h : isSc d = true) (r : Rp K G v d) : Rp K G' v d := by
  cases r <;> first | (simp [isSc] at h; done) | constructor
def dCallO (i : Nat) (op : List D → (D → Prop) → Prop) : DE := fun ρ Q => match ρ[i]? with
  | some (some (.ow (.lst ds))) => op [.list ds] fun z => isSc z = true ∧ Q z ρ
  | _ => False
theorem je_callBO {i : Nat} {y : Str} {py : Pos} {id : String} {op : List D → (D → Prop) → Prop} (hc : CallD X (.builtin id) op) (hm : X.mg x = none) (hv : bootBuiltins x = some (.builtin id)) (hN : X.N[i]? = some y) (hy : Vis X.env.scope y) (hg : Gl X x := by rfl) (hn : x ≠ "__name__" := by decide) (hdb : (x == ("__debug__" : Str)) = false := by decide)
    (hd : (y == ("__debug__" : Str)) = false := by decide) (hcd : (y == ("__classdict__" : Str)) = false := by decide)
    (he : starEach [Expr.Name y py] X.env = (false, eval (Expr.Name y py) X.env) :: starEach [] X.env := by rfl) : JE X (.Call (.Name x p) [.Name y py] [] pos) (dCallO i op) := by
  obtain ⟨r, h1, h2⟩ := hc.ex
  refine ⟨_, pe_callB h1 hg hm hv (pa_cons (pe_var hN hy hd hcd) pa_nil he) hn hdb he, fun T ρ σ H QD Q r h q => ?_⟩
  unfold dCallO at h
  split at h
  · rename_i ds e1
    obtain ⟨a, o, ha, ho, hr⟩ := r.ow i _ e1
    have rf := r.freeze e1
    obtain ⟨v, hv, rv⟩ := rf.im i (.list ds) (List.getElem?_set_self (List.getElem?_eq_some_iff.mp e1).1)
    rw [ha] at hv; cases hv
    refine ⟨_, ha, h2 _ H _ _ _ _ (fun a => rf.hdDom) (.cons rv .nil) h fun z v H' e v2 h => ?_⟩
    exact q _ _ _ _ (r.grow e) (.grow e) (sc_rp h.1 v2) h.2
  · exact False.elim h
def dBinO (i : Nat) (op : D → D → (D → Prop) → Prop) (fb : DE) : DE := fun ρ Q => (∃ m, ρ[i]? = some (some (SV.ow m))) ∧ fb ρ fun y ρ1 => match ρ1[i]? with
  | some (some (.ow (.lst ds))) => op (.list ds) y fun z => isSc z = true ∧ Q z ρ1
  | _ => False
theorem hd_freeze {T : Addr → Prop} {ρ : Env} {σ : L2.St} {H : Hp} {i : Nat} {d : D} : Ex (hide (Hd T ρ σ) H) (hide (Hd T (ρ.set i (some (SV.im d))) σ) H) := hide_sub fun a w => w.elim .inl fun w => .inr (own_freeze w)
theorem two_O {op : D → D → (D → Prop) → Prop} {i : Nat} {y : Str} {py : Pos} {r : R2} (hN : X.N[i]? = some y) (hy : Vis X.env.scope y) (hd : (y == ("__debug__" : Str)) = false := by decide) (hcd : (y == ("__classdict__" : Str)) = false := by decide)
    (hr : ∀ (O : Addr → Prop) (H : Hp) (x y : V) (d e : D) (QD : D → Prop) (Q : VK), (∀ a, O a → H a ≠ none) → Rp X.K (hide O H) x d → Rp X.K (hide O H) y e → op d e QD → (∀ z v H', Ex H H' → Rp X.K (hide O H') v z → QD z → Q v H') → r x y H Q)
    (hb : JE X b fb) (he : ∀ ta tb, PE X (.Name y py) ta → PE X b tb → PE X e (tOp r ta tb)) : JE X e (dBinO i op fb) := by
  obtain ⟨tb, pb, kb⟩ := hb.ex
  refine ⟨_, he _ tb (pe_var hN hy hd hcd) pb, fun T ρ σ H QD Q r h q => ?_⟩
  obtain ⟨⟨m, hm⟩, h⟩ := h
  obtain ⟨a, o, ha, _, _⟩ := r.ow i m hm
  refine ⟨_, ha, kb T ρ σ H _ _ r h fun y ρ1 v H1 r1 p1 v1 h => ?_⟩
  split at h
  · rename_i ds e1
    have rf := r1.freeze e1
    obtain ⟨u, hu, ru⟩ := rf.im i (.list ds) (List.getElem?_set_self (List.getElem?_eq_some_iff.mp e1).1)
    rw [ha] at hu; cases hu
    exact hr _ H1 _ _ _ _ _ _ (fun a => rf.hdDom) ru (v1.mono hd_freeze) h fun z w H' e v2 h => q _ _ _ _ (r1.grow e) (p1.trans (.grow e)) (sc_rp h.1 v2) h.2
  · exact False.elim h
theorem je_cmpO {op : D → D → (D → Prop) → Prop} {i : Nat} {y : Str} {py : Pos} {o : CmpOp} (ho : OpD X (compareOp o) op) (hN : X.N[i]? = some y) (hy : Vis X.env.scope y) (hb : JE X b fb) (hm : behindInMarks o b = false)
    (hd : (y == ("__debug__" : Str)) = false := by decide) (hcd : (y == ("__classdict__" : Str)) = false := by decide) : JE X (.Compare (.Name y py) [o] [b] pos) (dBinO i op fb) := by
  obtain ⟨r, h1, h2⟩ := ho.ex
  exact two_O hN hy hd hcd h2 hb fun _ _ pa pb => pe_cmpR h1 pa pb hm

/-! ### built-ins -/
def dLen : List D → (D → Prop) → Prop
  | [d] => fun Q => match seqD d with
    | some ds => Q (.int ds.length)
    | none => False
  | _ => fun _ => False
theorem calld_len : CallD X (.builtin "len") dLen := by
  refine ⟨_, call_len_seq, fun O H vs ds QD Q hO r h k => ?_⟩
  cases r with
  | nil => exact False.elim h
  | cons r rr =>
    cases rr with
    | cons _ _ => exact False.elim h
    | nil =>
      unfold dLen at h; dsimp only at h
      split at h
      · rename_i ds e
        obtain ⟨p, xs, rfl, hs, rx⟩ := seq_rp r e
        exact ⟨_, _, rfl, hs, k _ _ H (.refl H) (.int _) (by rw [rx.length]; exact h)⟩
      · exact False.elim h
def dAbs : List D → (D → Prop) → Prop
  | [.int i] => fun Q => Q (.int (if i < 0 then -i else i))
  | _ => fun _ => False
theorem rp1 {K : PySem.W.Frag} {G : Hp} {vs : List V} {d : D} (r : RpAll K G vs [d]) : ∃ v, vs = [v] ∧ Rp K G v d := by
  cases r with
  | cons r rr => cases rr; exact ⟨_, rfl, r⟩
theorem rp2 {K : PySem.W.Frag} {G : Hp} {vs : List V} {d e : D} (r : RpAll K G vs [d, e]) : ∃ v u, vs = [v, u] ∧ Rp K G v d ∧ Rp K G u e := by
  cases r with
  | cons r rr => obtain ⟨u, rfl, h⟩ := rp1 rr; exact ⟨_, _, rfl, r, h⟩
theorem calld_abs : CallD X (.builtin "abs") dAbs := by
  refine ⟨_, call_abs, fun O H vs ds QD Q hO r h k => ?_⟩
  unfold dAbs at h
  split at h
  · obtain ⟨v, rfl, w1⟩ := rp1 r
    cases w1
    exact ⟨_, rfl, k _ _ H (.refl H) (.int _) h⟩
  · exact False.elim h
def dMax2 : List D → (D → Prop) → Prop
  | [.int i, .int j] => fun Q => Q (.int (if j > i then j else i))
  | _ => fun _ => False
theorem calld_max2 (hc : X.calm = true) : CallD X (.builtin "max") dMax2 := by
  refine ⟨_, call_max2 hc, fun O H vs ds QD Q hO r h k => ?_⟩
  unfold dMax2 at h
  split at h
  · obtain ⟨v, u, rfl, r1, r2⟩ := rp2 r
    cases r1; cases r2
    exact ⟨_, _, rfl, k _ _ H (.refl H) (.int _) h⟩
  · exact False.elim h
def dMin2 : List D → (D → Prop) → Prop
  | [.int i, .int j] => fun Q => Q (.int (if j < i then j else i))
  | _ => fun _ => False
theorem calld_min2 (hc : X.calm = true) : CallD X (.builtin "min") dMin2 := by
  refine ⟨_, call_min2 hc, fun O H vs ds QD Q hO r h k => ?_⟩
  unfold dMin2 at h
  split at h
  · obtain ⟨v, u, rfl, r1, r2⟩ := rp2 r
    cases r1; cases r2
    exact ⟨_, _, rfl, k _ _ H (.refl H) (.int _) h⟩
  · exact False.elim h
def dInt : List D → (D → Prop) → Prop
  | [.int i] => fun Q => Q (.int i)
  | [.bool b] => fun Q => Q (.int (if b then 1 else 0))
  | _ => fun _ => False
theorem calld_int : CallD X (.type "int") dInt := by
  refine ⟨_, call_int1, fun O H vs ds QD Q hO r h k => ?_⟩
  unfold dInt at h
  split at h
  · obtain ⟨v, rfl, w1⟩ := rp1 r
    cases w1
    exact .inl ⟨_, rfl, k _ _ H (.refl H) (.int _) h⟩
  · obtain ⟨v, rfl, w1⟩ := rp1 r
    cases w1
    exact .inr ⟨_, rfl, k _ _ H (.refl H) (.int _) h⟩
  · exact False.elim h
def dAll (ds : List D) (Q : D → Prop) : Prop := ∃ bs : List Bool, ds = [.list (bs.map PyData.bool)] ∧ Q (.bool (bs.all id))
def dAny (ds : List D) (Q : D → Prop) : Prop := ∃ bs : List Bool, ds = [.list (bs.map PyData.bool)] ∧ Q (.bool (bs.any id))
def dSum (ds : List D) (Q : D → Prop) : Prop := ∃ ns : List Int, ds = [.list (ns.map PyData.int)] ∧ Q (.int ns.sum)
theorem calld_all (hc : X.calm = true) : CallD X (.builtin "all") dAll := by
  refine ⟨_, cr_all hc, fun O H vs ds QD Q hO r h k => ?_⟩
  obtain ⟨bs, rfl, h⟩ := h
  obtain ⟨v, rfl, w1⟩ := rp1 r
  cases w1 with
  | lst hp rr =>
    obtain rfl := rr.of_bls
    exact ⟨_, bs, rfl, .inl (.inl (at_of hp)), k _ _ H (.refl H) (.bl _) h⟩
theorem calld_any (hc : X.calm = true) : CallD X (.builtin "any") dAny := by
  refine ⟨_, cr_any hc, fun O H vs ds QD Q hO r h k => ?_⟩
  obtain ⟨bs, rfl, h⟩ := h
  obtain ⟨v, rfl, w1⟩ := rp1 r
  cases w1 with
  | lst hp rr =>
    obtain rfl := rr.of_bls
    exact ⟨_, bs, rfl, .inl (.inl (at_of hp)), k _ _ H (.refl H) (.bl _) h⟩
theorem calld_sum (hc : X.calm = true) : CallD X (.builtin "sum") dSum := by
  refine ⟨_, cr_sum hc, fun O H vs ds QD Q hO r h k => ?_⟩
  obtain ⟨bs, rfl, h⟩ := h
  obtain ⟨v, rfl, w1⟩ := rp1 r
  cases w1 with
  | lst hp rr =>
    obtain rfl := rr.of_ints
    exact ⟨_, bs, rfl, .inl (.inl (at_of hp)), k _ _ H (.refl H) (.int _) h⟩
def dTupOf : List D → (D → Prop) → Prop
  | [.list ds] => fun Q => Q (.tuple ds)
  | [.tuple ds] => fun Q => Q (.tuple ds)
  | _ => fun _ => False
theorem calld_tuple : CallD X (.type "tuple") dTupOf := by
  refine ⟨_, call_tuple_of, fun O H vs ds QD Q hO r h k => ?_⟩
  unfold dTupOf at h
  split at h
  · obtain ⟨v, rfl, w1⟩ := rp1 r
    cases w1 with
    | lst hp rr => exact ⟨_, _, rfl, .inl ⟨.inl (.inl (at_of hp)), fun l hl => k _ _ _ (Ex.new hl) (rp_newT hO hl rr) h⟩⟩
  · obtain ⟨v, rfl, w1⟩ := rp1 r
    cases w1 with
    | tup hp rr => exact ⟨_, _, rfl, .inr ⟨sqt_of hp, k _ _ H (.refl H) (.tup hp rr) h⟩⟩
  · exact False.elim h
/-- isinstance -/
def tyN : D → String
  | .none => "NoneType"
  | .bool _ => "bool"
  | .int _ => "int"
  | .str _ => "str"
  | .list _ => "list"
  | .tuple _ => "tuple"
  | .dict ((.none, _) :: _) => "list"
  | .dict _ => "dict"
theorem tyN_dk (kvs : List (Key × D)) : tyN (.dict (dkD kvs)) = "dict" := by
  cases kvs with
  | nil => rfl
  | cons p r => obtain ⟨k, d⟩ := p; cases k <;> rfl
theorem ty_rp {K : PySem.W.Frag} {O : Addr → Prop} {H : Hp} {v : V} {d : D} (r : Rp K (hide O H) v d) : TyX K H v (.type (tyN d)) := by
  cases r with
  | non => exact .base .non
  | bl b => exact .base (.bl b)
  | int b => exact .base (.int b)
  | str b => exact .base (.str b)
  | lst h _ => exact .base (.lst (at_of h))
  | dct h _ z => subst z; rw [tyN_dk]; exact .base (.dK (at_of h))
  | tup h _ =>
    rcases sqt_of h with (h | ⟨o, h⟩) | ⟨o, its, n, h1, h2, _⟩
    · exact .base (.tup h)
    · exact .fTuple h
    · exact .kTuple h1 h2
  | frz h _ =>
    rcases sql_of h with (h | ⟨o, h⟩) | ⟨o, its, n, h1, h2, _⟩
    · exact .base (.lst h)
    · exact .base (.frz h)
    · exact .kList h1 h2
def dIsi (tn : String) (fa : DE) : DE := fun ρ Q => fa ρ fun d ρ1 => match kitB (tyN d) tn with
  | some b => Q (.bool b) ρ1
  | none => False
theorem je_isi {tn : String} {y : Str} {py : Pos} (hm : X.mg "isinstance" = none) (hmy : X.mg y = none) (hvy : bootBuiltins y = some (.type tn)) (ha : JE X a fa) (hg : Gl X "isinstance" := by rfl) (hgy : Gl X y := by rfl) (hny : y ≠ "__name__" := by decide) (hdb : (y == ("__debug__" : Str)) = false := by decide)
    (h1 : starEach [a, Expr.Name y py] X.env = (false, eval a X.env) :: starEach [Expr.Name y py] X.env := by rfl) (h2 : starEach [Expr.Name y py] X.env = (false, eval (Expr.Name y py) X.env) :: starEach [] X.env := by rfl) (h3 : (backTo pos (starEach [Expr.Name y py] X.env)).any (·.1) = false := by rfl) :
    JE X (.Call (.Name "isinstance" p) [a, .Name y py] [] pos) (dIsi tn fa) := by
  obtain ⟨ta, pa, ka⟩ := ha.ex
  refine ⟨_, pe_callB call_isi hg hm (by decide +kernel) (pa_cons pa (pa_cons (pe_bltn (v := .ty tn) hgy hmy hvy rfl hny hdb) pa_nil h2) h1) (by decide) (by decide) h1 h3, fun T ρ σ H QD Q r h q => ka T ρ σ H _ _ r h fun d ρ1 v H1 r1 p1 v1 h => ?_⟩
  split at h
  · rename_i b e
    exact ⟨v, .ty tn, .type (tyN d), .type tn, b, rfl, .ty tn, ty_rp v1, kit_ty e, q _ _ _ _ r1 p1 (.bl b) h⟩
  · exact False.elim h
/-- new lists -/
def lOf (f : DE) : DL := fun ρ Q => f ρ fun d ρ1 => match seqD d with
  | some ds => Q ds ρ1
  | none => False
theorem none_back {ρ ρ' : Env} {σ σ' : L2.St} {H H' : Hp} {l : Addr} (q : Po ρ σ H ρ' σ' H') (h : H' l = none) : H l = none := by
  cases z : H l with
  | none => rfl
  | some o => exact absurd h (q.dom l (by rw [z]; simp))
theorem jl_list (hm : X.mg "list" = none) (ha : JE X a fa) (hg : Gl X "list" := by rfl) (he : starEach [a] X.env = (false, eval a X.env) :: starEach [] X.env := by rfl) : JL X (.Call (.Name "list" p) [a] [] pos) (lOf fa) := by
  obtain ⟨ta, pa, ka⟩ := ha.ex
  refine ⟨_, pe_callTy call_list_of hg hm (by decide +kernel) (pa_cons pa pa_nil he) (by decide) (by decide) he, fun T ρ σ H QD Q r h q => ka T ρ σ H _ _ r h fun d ρ1 v H1 r1 p1 v1 h => ?_⟩
  split at h
  · rename_i ds e
    obtain ⟨p, xs, rfl, hs, rx⟩ := seq_rp v1 e
    exact ⟨_, _, rfl, hs, fun l hl => q _ _ _ _ _ (none_back p1 hl) upd_same (r1.laid hl) (rx.mono (hd_laid hl)) (p1.trans (.grow (Ex.new hl))) h⟩
  · exact False.elim h
/-- list(x), tuple(x) of an owned list x -/
def lOfO (i : Nat) : DL := fun ρ Q => match ρ[i]? with
  | some (some (.ow (.lst ds))) => Q ds ρ
  | _ => False
theorem jl_listO {i : Nat} {y : Str} {py : Pos} (hm : X.mg "list" = none) (hN : X.N[i]? = some y) (hy : Vis X.env.scope y) (hg : Gl X "list" := by rfl) (hd : (y == ("__debug__" : Str)) = false := by decide) (hcd : (y == ("__classdict__" : Str)) = false := by decide)
    (he : starEach [Expr.Name y py] X.env = (false, eval (Expr.Name y py) X.env) :: starEach [] X.env := by rfl) : JL X (.Call (.Name "list" p) [.Name y py] [] pos) (lOfO i) := by
  refine ⟨_, pe_callTy call_list_of hg hm (by decide +kernel) (pa_cons (pe_var hN hy hd hcd) pa_nil he) (by decide) (by decide) he, fun T ρ σ H QD Q r h q => ?_⟩
  unfold lOfO at h
  split at h
  · rename_i ds e
    obtain ⟨a, o, ha, ho, hr⟩ := r.ow i _ e
    cases o with
    | lst vs => exact ⟨_, ha, _, _, rfl, .inl (.inl (.inl ho)), fun l hl => q _ _ _ _ _ hl upd_same (r.laid hl) (RpAll.mono (hd_laid hl) hr) (.grow (Ex.new hl)) h⟩
    | _ => exact False.elim hr
  · exact False.elim h
def dTupO (i : Nat) : DE := fun ρ Q => match ρ[i]? with
  | some (some (.ow (.lst ds))) => Q (.tuple ds) ρ
  | _ => False
theorem je_tupleO {i : Nat} {y : Str} {py : Pos} (hm : X.mg "tuple" = none) (hN : X.N[i]? = some y) (hy : Vis X.env.scope y) (hg : Gl X "tuple" := by rfl) (hd : (y == ("__debug__" : Str)) = false := by decide) (hcd : (y == ("__classdict__" : Str)) = false := by decide)
    (he : starEach [Expr.Name y py] X.env = (false, eval (Expr.Name y py) X.env) :: starEach [] X.env := by rfl) : JE X (.Call (.Name "tuple" p) [.Name y py] [] pos) (dTupO i) := by
  refine ⟨_, pe_callTy call_tuple_of hg hm (by decide +kernel) (pa_cons (pe_var hN hy hd hcd) pa_nil he) (by decide) (by decide) he, fun T ρ σ H QD Q r h q => ?_⟩
  unfold dTupO at h
  split at h
  · rename_i ds e
    obtain ⟨a, o, ha, ho, hr⟩ := r.ow i _ e
    cases o with
    | lst vs => exact ⟨_, ha, _, _, rfl, .inl ⟨.inl (.inl ho), fun l hl => q _ _ _ _ (r.grow (Ex.new hl)) (.grow (Ex.new hl)) (rp_newT (fun a => r.hdDom) hl hr) h⟩⟩
    | _ => exact False.elim hr
  · exact False.elim h
/-- ranges -/
def rgD (i j : Int) : List D := (List.range (j - i).toNat).map fun k => PyData.int (i + (k : Nat))
def RgD (i j : Int) : Prop := -1000000 ≤ i ∧ i ≤ 1000000 ∧ -1000000 ≤ j ∧ j ≤ 1000000
theorem rg_ok {i j : Int} (h : RgD i j) : RgOk i j := by unfold RgD at h; exact ⟨by omega, by omega, by omega, by omega, by omega⟩
theorem rg_rp {K : PySem.W.Frag} {G : Hp} (i j : Int) : RpAll K G (rgV i j) (rgD i j) := by
  have : rgV i j = ((List.range (j - i).toNat).map fun k => i + (k : Nat)).map V.int := by unfold rgV; simp
  rw [this, show rgD i j = ((List.range (j - i).toNat).map fun k => i + (k : Nat)).map PyData.int from by unfold rgD; simp]
  exact RpAll.ints _
abbrev DR := Env → (Int → Int → Env → Prop) → Prop
structure JR (X : Cx) (e : Expr) (f : DR) : Prop where
  ex : ∃ t, PRg X e t ∧ ∀ (T : Addr → Prop) (ρ : Env) (σ : L2.St) (H : Hp) (QD : Int → Int → Env → Prop) (Q : Int → Int → Hp → Prop), RS X.K T ρ σ H → f ρ QD →
    (∀ i j ρ' H', RS X.K T ρ' σ H' → Po ρ σ H ρ' σ H' → QD i j ρ' → Q i j H') → t σ H Q
def rg1 (fa : DE) : DR := fun ρ Q => fa ρ fun d ρ1 => match d with
  | .int n => Q 0 n ρ1
  | _ => False
def rg2 (fa fb : DE) : DR := fun ρ Q => fa ρ fun d ρ1 => fb ρ1 fun e ρ2 => match d, e with
  | .int n, .int m => Q n m ρ2
  | _, _ => False
theorem jr_1 (hm : X.mg "range" = none) (ha : JE X a fa) (hg : Gl X "range" := by rfl) (na : starEach [a] X.env = (false, eval a X.env) :: starEach [] X.env := by rfl) : JR X (.Call (.Name "range" p) [a] [] pos) (rg1 fa) := by
  obtain ⟨ta, pa, ka⟩ := ha.ex
  refine ⟨_, prg_1 hg hm pa na, fun T ρ σ H QD Q r h q => ka T ρ σ H _ _ r h fun d ρ1 v H1 r1 p1 v1 h => ?_⟩
  cases v1 with
  | int n => exact ⟨n, rfl, q _ _ _ _ r1 p1 h⟩
  | _ => exact False.elim h
theorem jr_2 (hm : X.mg "range" = none) (ha : JE X a fa) (hb : JE X b fb) (hg : Gl X "range" := by rfl) (na : starEach [a, b] X.env = (false, eval a X.env) :: starEach [b] X.env := by rfl) (nb : starEach [b] X.env = (false, eval b X.env) :: starEach [] X.env := by rfl) (hpl : (backTo pos (starEach [b] X.env)).any (·.1) = false := by rfl) :
    JR X (.Call (.Name "range" p) [a, b] [] pos) (rg2 fa fb) := by
  obtain ⟨ta, pa, ka⟩ := ha.ex
  obtain ⟨tb, pb, kb⟩ := hb.ex
  refine ⟨_, prg_2 hg hm pa pb na nb hpl, fun T ρ σ H QD Q r h q => ka T ρ σ H _ _ r h fun d ρ1 v H1 r1 p1 v1 h => kb T ρ1 σ H1 _ _ r1 h fun e ρ2 u H2 r2 p2 v2 h => ?_⟩
  cases v1 <;> cases v2 <;> first | exact False.elim h | exact ⟨_, _, rfl, rfl, q _ _ _ _ r2 (p1.trans p2) h⟩
def lRg (f : DR) : DL := fun ρ Q => f ρ fun i j ρ1 => RgD i j ∧ Q (rgD i j) ρ1
def dTRg (f : DR) : DE := fun ρ Q => f ρ fun i j ρ1 => RgD i j ∧ Q (.tuple (rgD i j)) ρ1
theorem jl_rg {f : DR} (hc : X.calm = true) (hm : X.mg "list" = none) (ha : JR X a f) (hg : Gl X "list" := by rfl) (na : starEach [a] X.env = (false, eval a X.env) :: starEach [] X.env := by rfl) : JL X (.Call (.Name "list" p) [a] [] pos) (lRg f) := by
  obtain ⟨ta, pa, ka⟩ := ha.ex
  refine ⟨_, pe_listRg hc hg hm pa na, fun T ρ σ H QD Q r h q => ka T ρ σ H _ _ r h fun i j ρ1 H1 r1 p1 h => ⟨rg_ok h.1, fun l hl => ?_⟩⟩
  exact q _ _ _ _ _ (none_back p1 hl) upd_same (r1.laid hl) (rg_rp i j) (p1.trans (.grow (Ex.new hl))) h.2
theorem je_tupRg {f : DR} (hc : X.calm = true) (hm : X.mg "tuple" = none) (ha : JR X a f) (hg : Gl X "tuple" := by rfl) (na : starEach [a] X.env = (false, eval a X.env) :: starEach [] X.env := by rfl) : JE X (.Call (.Name "tuple" p) [a] [] pos) (dTRg f) := by
  obtain ⟨ta, pa, ka⟩ := ha.ex
  refine ⟨_, pe_tupRg hc hg hm pa na, fun T ρ σ H QD Q r h q => ka T ρ σ H _ _ r h fun i j ρ1 H1 r1 p1 h => ⟨rg_ok h.1, fun l hl => ?_⟩⟩
  exact q _ _ _ _ (r1.grow (Ex.new hl)) (p1.trans (.grow (Ex.new hl))) (rp_newT (fun a => r1.hdDom) hl (rg_rp i j)) h.2
end
end Dn
set_option Elab.async false
set_option linter.all false
set_option maxRecDepth 100000
set_option autoImplicit false
set_option maxHeartbeats 4000000
namespace Dn
open PySem L2 Evl
/-! ### targets -/
structure JG (X : Cx) (tg : Expr) (vs : List Nat) (g : DG) : Prop where
  ex : ∃ t, PG X tg t ∧ ∀ (T : Addr → Prop) (ρ : Env) (σ : L2.St) (H : Hp) (v : V) (d : D) (QD : Env → Prop) (Q : L2.St → Hp → Prop), RS X.K T ρ σ H → Rp X.K (hide (Hd T ρ σ) H) v d → g d ρ QD →
    (∀ ρ' σ', RS X.K T ρ' σ' H → Po ρ σ H ρ' σ' H → wipe σ' vs = wipe σ vs → QD ρ' → Q σ' H) → t v σ H Q
structure JGs (X : Cx) (tgs : List Expr) (vs : List Nat) (g : List D → Env → (Env → Prop) → Prop) : Prop where
  ex : ∃ t, PGs X tgs t ∧ ∀ (T : Addr → Prop) (ρ : Env) (σ : L2.St) (H : Hp) (us : List V) (ds : List D) (QD : Env → Prop) (Q : L2.St → Hp → Prop), RS X.K T ρ σ H → RpAll X.K (hide (Hd T ρ σ) H) us ds → g ds ρ QD →
    (∀ ρ' σ', RS X.K T ρ' σ' H → Po ρ σ H ρ' σ' H → wipe σ' vs = wipe σ vs → QD ρ' → Q σ' H) → t us σ H Q
theorem wipe_set (σ : L2.St) (v : Option V) : ∀ (vs : List Nat) (i : Nat), i ∈ vs → wipe (σ.set i v) vs = wipe σ vs
  | [], i, h => by cases h
  | j :: vs, i, h => by
    show (wipe (σ.set i v) vs).set j none = (wipe σ vs).set j none
    by_cases e : i ∈ vs
    · rw [wipe_set σ v vs i e]
    · have : i = j := by rcases List.mem_cons.mp h with h | h; exact h; exact absurd h e
      subst this
      have aux : ∀ (ws : List Nat), i ∉ ws → wipe (σ.set i v) ws = (wipe σ ws).set i v := by
        intro ws
        induction ws with
        | nil => intro _; rfl
        | cons k ws ih =>
          intro hn
          show (wipe (σ.set i v) ws).set k none = ((wipe σ ws).set k none).set i v
          rw [ih (fun z => hn (List.mem_cons_of_mem _ z)), List.set_comm _ _ (fun z => hn (by rw [z]; exact List.mem_cons_self))]
      rw [aux vs e, List.set_set]
section
variable {X : Cx} {a b c e : Expr} {fa fb fc : DE} {pos p : Pos} {es : List Expr} {x : Str}
def gNm (i : Nat) : DG := fun d ρ Q => Q (ρ.set i (some (.im d)))
theorem jg_name {i : Nat} {vs : List Nat} (hN : X.N.Nodup) (hi : X.N[i]? = some x) (hx : Loc X.env.scope x) (hv : i ∈ vs := by decide) (hf : X.fn x = true ∨ X.env.scope.names.lookup x = some .local := by first | exact .inl rfl | exact .inr rfl | assumption) : JG X (.Name x pos) vs (gNm i) :=
  ⟨gName i, pg_name hN hi hx hf, fun T ρ σ H v d QD Q r rv h q => q _ _ (r.setIm rv) .setIm (wipe_set σ _ vs i hv) h⟩
def gsNil : List D → Env → (Env → Prop) → Prop := fun ds ρ Q => ds = [] ∧ Q ρ
def gsCons (g : DG) (gs : List D → Env → (Env → Prop) → Prop) : List D → Env → (Env → Prop) → Prop := fun ds ρ Q => match ds with
  | d :: ds => g d ρ fun ρ1 => gs ds ρ1 Q
  | [] => False
theorem jgs_nil {vs : List Nat} : JGs X [] vs gsNil := ⟨gNil, pgs_nil, fun T ρ σ H us ds QD Q r rv h q => by
  obtain ⟨rfl, h⟩ := h
  cases rv
  exact ⟨rfl, q _ _ r .refl rfl h⟩⟩
theorem jgs_cons {g : DG} {gs : List D → Env → (Env → Prop) → Prop} {vs : List Nat} (h1 : JG X e vs g) (h2 : JGs X es vs gs) (hs : (assignEach (e :: es) X.env).map (·.2) = assign e X.env :: (assignEach es X.env).map (·.2) := by rfl) : JGs X (e :: es) vs (gsCons g gs) := by
  obtain ⟨t1, p1, k1⟩ := h1.ex
  obtain ⟨t2, p2, k2⟩ := h2.ex
  refine ⟨_, pgs_cons p1 p2 hs, fun T ρ σ H us ds QD Q r rv h q => ?_⟩
  cases rv with
  | nil => exact False.elim h
  | cons rv rr => exact ⟨_, _, rfl, k1 T ρ σ H _ _ _ _ r rv h fun ρ1 σ1 r1 q1 w1 h => k2 T ρ1 σ1 H _ _ _ _ r1 (rr.mono q1.fz) h fun ρ2 σ2 r2 q2 w2 h => q _ _ r2 (q1.trans q2) (w2.trans w1) h⟩
def gTp (n : Nat) (gs : List D → Env → (Env → Prop) → Prop) : DG := fun d ρ Q => match d with
  | .tuple ds => ds.length = n ∧ gs ds ρ Q
  | _ => False
theorem jg_tup {k n : Nat} {gs : List D → Env → (Env → Prop) → Prop} {vs : List Nat} (hc : X.calm = true) (h : JGs X es vs gs) (hn : (assignEach es X.env).length = n := by rfl) (hst : (assignEach es X.env).findIdx? (·.1) = none := by rfl) : JG X (.Tuple es k pos) vs (gTp n gs) := by
  obtain ⟨t, pt, kt⟩ := h.ex
  refine ⟨_, pg_tup hc pt hn hst, fun T ρ σ H v d QD Q r rv h q => ?_⟩
  cases rv with
  | tup hp rr => exact ⟨_, _, rfl, sqt_of hp, by rw [rr.length]; exact h.1, kt T ρ σ H _ _ _ _ r rr h.2 q⟩
  | _ => exact False.elim h

/-! ### statements -/
def sNx : DS := fun E ρ => E.nx ρ
def sSeq (f g : DS) : DS := fun E ρ => f { E with nx := g E } ρ
theorem js_nil : JSs X [] sNx := ⟨tNext, pss_nil, fun T ρ σ H E D r h k => k.nx _ _ _ r .refl h⟩
theorem js_cons {st : Stmt} {sts : List Stmt} {f g : DS} (h1 : JS X st f) (h2 : JSs X sts g) : JSs X (st :: sts) (sSeq f g) := by
  obtain ⟨t1, p1, k1⟩ := h1.ex
  obtain ⟨t2, p2, k2⟩ := h2.ex
  refine ⟨_, pss_cons p1 p2, fun T ρ σ H E D r h k => ?_⟩
  exact k1 T ρ σ H _ _ r h ⟨fun ρ1 σ1 H1 r1 q1 h1 => k2 T ρ1 σ1 H1 E D r1 h1 (k.step q1), k.rt, k.bk, k.ct⟩
theorem js_one {st : Stmt} {f : DS} (h1 : JS X st f) : JSs X [st] f := by
  obtain ⟨t1, p1, k1⟩ := h1.ex
  refine ⟨_, pss_cons p1 pss_nil, fun T ρ σ H E D r h k => ?_⟩
  exact k1 T ρ σ H E _ r h ⟨k.nx, k.rt, k.bk, k.ct⟩
theorem js_pass : JS X (.Pass pos) sNx := ⟨tNext, ps_pass, fun T ρ σ H E D r h k => k.nx _ _ _ r .refl h⟩
def sBk : DS := fun E ρ => E.bk ρ
def sCt : DS := fun E ρ => E.ct ρ
theorem js_break : JS X (.Break pos) sBk := ⟨_, ps_break, fun T ρ σ H E D r h k => k.bk _ _ _ r .refl h⟩
theorem js_continue : JS X (.Continue pos) sCt := ⟨_, ps_continue, fun T ρ σ H E D r h k => k.ct _ _ _ r .refl h⟩
def sNever : DS := fun _ _ => False
theorem js_never {st : Stmt} : JS X st sNever := ⟨_, ps_never, fun T ρ σ H E D r h k => h.elim⟩
theorem jss_never {st : List Stmt} : JSs X st sNever := ⟨_, pss_never, fun T ρ σ H E D r h k => h.elim⟩
def sEx (f : DE) : DS := fun E ρ => f ρ fun _ ρ1 => E.nx ρ1
theorem js_expr (ha : JE X e fa) (hs : swapsWith e none pos.line X.env = pure false := by rfl) : JS X (.Expr e pos) (sEx fa) := by
  obtain ⟨t, pt, kt⟩ := ha.ex
  exact ⟨_, ps_expr pt hs, fun T ρ σ H E D r h k => kt T ρ σ H _ _ r h fun d ρ1 v H1 r1 p1 v1 h => k.nx _ _ _ r1 p1 h⟩
def sRet (f : DE) : DS := fun E ρ => f ρ E.rt
theorem js_ret (ha : JE X e fa) : JS X (.Return (some e) pos) (sRet fa) := by
  obtain ⟨t, pt, kt⟩ := ha.ex
  exact ⟨_, ps_ret pt, fun T ρ σ H E D r h k => kt T ρ σ H _ _ r h fun d ρ1 v H1 r1 p1 v1 h => k.rt _ _ _ _ _ r1 p1 v1 h⟩
def sRetN : DS := fun E ρ => E.rt .none ρ
theorem js_retN : JS X (.Return none pos) sRetN := ⟨_, ps_retN, fun T ρ σ H E D r h k => k.rt _ _ _ _ _ r .refl .non h⟩
/-- return x, x an owned list -/
def sRetO (i : Nat) : DS := fun E ρ => match ρ[i]? with
  | some (some (.ow (.lst ds))) => E.rt (.list ds) (ρ.set i (some (.im (.list ds))))
  | _ => False
theorem js_retO {i : Nat} {px : Pos} (hN : X.N[i]? = some x) (hv : Vis X.env.scope x) (hd : (x == ("__debug__" : Str)) = false := by decide) (hcd : (x == ("__classdict__" : Str)) = false := by decide) : JS X (.Return (some (.Name x px)) pos) (sRetO i) := by
  refine ⟨_, ps_ret (pe_var hN hv hd hcd), fun T ρ σ H E D r h k => ?_⟩
  unfold sRetO at h
  split at h
  · rename_i ds e1
    have rf := r.freeze e1
    obtain ⟨v, hv, rv⟩ := rf.im i (.list ds) (List.getElem?_set_self (List.getElem?_eq_some_iff.mp e1).1)
    exact ⟨v, hv, k.rt _ _ _ _ _ rf .freeze rv h⟩
  · exact False.elim h
def sIf (c : DT) (f g : DS) : DS := fun E ρ => c ρ fun b ρ1 => if b = true then f E ρ1 else g E ρ1
theorem js_if {g : DT} {sa sb : List Stmt} {f1 f2 : DS} (hc : JT X c g) (h1 : JSs X sa f1) (h2 : JSs X sb f2) : JS X (.If c sa sb pos) (sIf g f1 f2) := by
  obtain ⟨tc, pc, kc⟩ := hc.ex
  obtain ⟨t1, p1, k1⟩ := h1.ex
  obtain ⟨t2, p2, k2⟩ := h2.ex
  refine ⟨_, ps_if pc p1 p2, fun T ρ σ H E D r h k => kc T ρ σ H _ _ r h fun b ρ1 H1 r1 q1 h => ?_⟩
  cases b with
  | true => exact k1 T ρ1 σ H1 E D r1 h (k.step q1)
  | false => exact k2 T ρ1 σ H1 E D r1 h (k.step q1)
/-- a name is stored -/
def sSet (i : Nat) (f : DX) : DS := fun E ρ => f ρ fun sv ρ1 => E.nx (ρ1.set i (some sv))
theorem fits_set {K : PySem.W.Frag} {T : Addr → Prop} {ρ ρ0 : Env} {σ : L2.St} {H0 H : Hp} {v : V} {sv : SV} {i : Nat} (r0 : RS K T ρ0 σ H0) (q : Po ρ0 σ H0 ρ σ H) (h : Fits K T ρ σ H0 H v sv) : RS K T (ρ.set i (some sv)) (σ.set i (some v)) H ∧ Po ρ0 σ H0 (ρ.set i (some sv)) (σ.set i (some v)) H := by
  cases sv with
  | im d => exact ⟨h.1.setIm h.2, q.trans .setIm⟩
  | ow m =>
    obtain ⟨p, o, rfl, hn, ho, r, rr, np⟩ := h
    exact ⟨r.setOw ho rr (fun t => (r0.dom p t).1 hn) fun _ _ z => (np _ _ z).elim, q.setOw hn⟩
theorem js_set {i : Nat} {f : DX} {px : Pos} (he : JX X e f) (hN : X.N.Nodup) (hi : X.N[i]? = some x) (hx : Loc X.env.scope x) (hs : swapsWith e (some (.Name x px)) pos.line X.env = pure false := by rfl) (hf : X.fn x = true ∨ X.env.scope.names.lookup x = some .local := by first | exact .inl rfl | exact .inr rfl | assumption) : JS X (.Assign [.Name x px] e pos) (sSet i f) := by
  obtain ⟨t, pt, kt⟩ := he.ex
  refine ⟨_, ps_set hN hi hx pt hs hf, fun T ρ σ H E D r h k => kt T ρ σ H _ _ r h fun sv ρ1 v H1 fi q1 h => ?_⟩
  obtain ⟨r2, q2⟩ := fits_set (i := i) r q1 fi
  exact k.nx _ _ _ r2 q2 h
/-- any target -/
def sAsg (f : DE) (g : DG) : DS := fun E ρ => f ρ fun d ρ1 => g d ρ1 E.nx
theorem js_asg {tg : Expr} {g : DG} {vs : List Nat} (ha : JE X e fa) (hg : JG X tg vs g) (hs : swapsWithSole [tg] e pos.line X.env = pure false := by rfl) (hw : swappedStores [tg] e X.env = pure none := by rfl) (h1 : (assignEach [tg] X.env).map (·.2) = [assign tg X.env] := by rfl) : JS X (.Assign [tg] e pos) (sAsg fa g) := by
  obtain ⟨t, pt, kt⟩ := ha.ex
  obtain ⟨t2, p2, k2⟩ := hg.ex
  refine ⟨_, ps_asg pt p2 hs hw h1, fun T ρ σ H E D r h k => kt T ρ σ H _ _ r h fun d ρ1 v H1 r1 q1 v1 h => k2 T ρ1 σ H1 _ _ _ _ r1 v1 h fun ρ2 σ2 r2 q2 _ h => k.nx _ _ _ r2 (q1.trans q2) h⟩
/-- a, b = e1, e2 with plain local names -/
def sPar (i j : Nat) (f g : DX) : DS := fun E ρ => f ρ fun s1 ρ1 => g ρ1 fun s2 ρ2 => E.nx ((ρ2.set i (some s1)).set j (some s2))
end
end Dn
set_option Elab.async false
set_option linter.all false
set_option maxRecDepth 100000
set_option autoImplicit false
set_option maxHeartbeats 4000000
namespace Dn
open PySem L2 Evl
section
variable {X : Cx} {a b c e : Expr} {fa fb fc : DE} {pos p : Pos} {es : List Expr} {x y : Str}
theorem setc {α : Type} {l : List α} {i j : Nat} {u v : α} (h : i ≠ j) : (l.set i u).set j v = (l.set j v).set i u := List.set_comm u v h
theorem Fits.grow {K : PySem.W.Frag} {T : Addr → Prop} {ρ : Env} {σ : L2.St} {H0 H H' : Hp} {v : V} {sv : SV} (h : Fits K T ρ σ H0 H v sv) (e : Ex H H') : Fits K T ρ σ H0 H' v sv := by
  cases sv with
  | im d => exact ⟨h.1.grow e, h.2.mono (hide_grow e)⟩
  | ow m => obtain ⟨q, o, h1, h2, h3, h4, h5, h6⟩ := h; exact ⟨q, o, h1, h2, e _ _ h3, h4.grow e, h5.mono (hide_grow e), h6⟩
/-- the temps under which the next part is reckoned -/
def SV.temps (v : V) (sv : SV) (T : Addr → Prop) : Addr → Prop := match sv, v with
  | .ow _, .ref p => plus T p
  | _, _ => T
theorem Fits.rs {K : PySem.W.Frag} {T : Addr → Prop} {ρ : Env} {σ : L2.St} {H0 H : Hp} {v : V} {sv : SV} (h : Fits K T ρ σ H0 H v sv) : RS K (sv.temps v T) ρ σ H := by
  cases sv with
  | im d => exact h.1
  | ow m => obtain ⟨q, o, rfl, h2, h3, h4, h5, _⟩ := h; exact h4
theorem par_fin {K : PySem.W.Frag} {T : Addr → Prop} {ρ ρ1 ρ2 : Env} {σ : L2.St} {H H1 H2 : Hp} {v w : V} {s1 s2 : SV} {i j : Nat} (hij : i ≠ j) (r : RS K T ρ σ H) (f1 : Fits K T ρ1 σ H H1 v s1) (q1 : Po ρ σ H ρ1 σ H1)
    (f2 : Fits K (s1.temps v T) ρ2 σ H1 H2 w s2) (q2 : Po ρ1 σ H1 ρ2 σ H2) : RS K T ((ρ2.set i (some s1)).set j (some s2)) ((σ.set i (some v)).set j (some w)) H2 ∧ Po ρ σ H ((ρ2.set i (some s1)).set j (some s2)) ((σ.set i (some v)).set j (some w)) H2 := by
  rw [setc hij, setc hij]
  obtain ⟨r3, q3⟩ := fits_set (i := j) f1.rs q2 f2
  cases s1 with
  | im d => exact ⟨r3.setIm (f1.2.mono q3.fz), (q1.trans q3).trans .setIm⟩
  | ow m =>
    obtain ⟨p, o, rfl, hn, ho, r4, rr, np⟩ := f1
    have no : ¬ Own ρ1 σ p := r4.dis p (.inl rfl)
    exact ⟨r3.setOw (q3.keep p o no ho) (rr.mono q3.fz) (fun t => (r.dom p t).1 hn) fun _ _ z => (np _ _ z).elim, (q1.trans q3).setOw hn⟩
theorem js_par {i j : Nat} {f g : DX} {px py pt : Pos} {kt k2 pt2} (hc : X.calm = true) (hN : X.N.Nodup) (hi : X.N[i]? = some x) (hj : X.N[j]? = some y) (hij : i ≠ j) (hx : X.env.scope.names.lookup x = some .local) (hy : X.env.scope.names.lookup y = some .local)
    (ha : JX X a f) (hb : JX X b g) (hw : swappedStores [.Tuple [.Name x px, .Name y py] kt pt] (.Tuple [a, b] k2 pt2) X.env = pure (some [x, y])) (hs : swapsWithSole [.Tuple [.Name x px, .Name y py] kt pt] (.Tuple [a, b] k2 pt2) pos.line X.env = pure false := by rfl)
    (h1 : starEach [a, b] X.env = (false, eval a X.env) :: starEach [b] X.env := by rfl) (h2 : starEach [b] X.env = (false, eval b X.env) :: starEach [] X.env := by rfl) :
    JS X (.Assign [.Tuple [.Name x px, .Name y py] kt pt] (.Tuple [a, b] k2 pt2) pos) (sPar i j f g) := by
  obtain ⟨t1, p1, k1⟩ := ha.ex
  obtain ⟨t2, p2, k2⟩ := hb.ex
  refine ⟨_, ps_par hc hN hi hj hij hx hy (pa_cons p1 (pa_cons p2 pa_nil h2) h1) hw hs, fun T ρ σ H E D r h k => ?_⟩
  refine k1 T ρ σ H _ _ r h fun s1 ρ1 v H1 f1 q1 h => k2 (s1.temps v T) ρ1 σ H1 _ _ f1.rs h fun s2 ρ2 w H2 f2 q2 h => ⟨v, w, rfl, ?_⟩
  obtain ⟨r3, q3⟩ := par_fin hij r f1 q1 f2 q2
  exact k.nx _ _ _ r3 q3 h
/-- the same where the names are cells, too: the pair is made -/
theorem js_parT {i j : Nat} {f g : DX} {px py pt : Pos} {kt k2 pt2} (hc : X.calm = true) (hN : X.N.Nodup) (hi : X.N[i]? = some x) (hj : X.N[j]? = some y) (hij : i ≠ j) (hx : Loc X.env.scope x) (hy : Loc X.env.scope y)
    (ha : JX X a f) (hb : JX X b g) (hfx : X.fn x = true ∨ X.env.scope.names.lookup x = some .local := by first | exact .inl rfl | exact .inr rfl | assumption) (hfy : X.fn y = true ∨ X.env.scope.names.lookup y = some .local := by first | exact .inl rfl | exact .inr rfl | assumption)
    (hw : swappedStores [.Tuple [.Name x px, .Name y py] kt pt] (.Tuple [a, b] k2 pt2) X.env = pure none := by rfl) (hs : swapsWithSole [.Tuple [.Name x px, .Name y py] kt pt] (.Tuple [a, b] k2 pt2) pos.line X.env = pure false := by rfl)
    (h1 : starEach [a, b] X.env = (false, eval a X.env) :: starEach [b] X.env := by rfl) (h2 : starEach [b] X.env = (false, eval b X.env) :: starEach [] X.env := by rfl)
    (h3 : (assignEach [.Tuple [.Name x px, .Name y py] kt pt] X.env).map (·.2) = [assign (.Tuple [.Name x px, .Name y py] kt pt) X.env] := by rfl) (h4 : (assignEach [.Name x px, .Name y py] X.env).length = 2 := by rfl) (h5 : (assignEach [.Name x px, .Name y py] X.env).findIdx? (·.1) = none := by rfl)
    (h6 : (assignEach [.Name x px, .Name y py] X.env).map (·.2) = assign (.Name x px) X.env :: (assignEach [.Name y py] X.env).map (·.2) := by rfl) (h7 : (assignEach [.Name y py] X.env).map (·.2) = assign (.Name y py) X.env :: (assignEach [] X.env).map (·.2) := by rfl) :
    JS X (.Assign [.Tuple [.Name x px, .Name y py] kt pt] (.Tuple [a, b] k2 pt2) pos) (sPar i j f g) := by
  obtain ⟨t1, p1, k1⟩ := ha.ex
  obtain ⟨t2, p2, k2⟩ := hb.ex
  refine ⟨_, ps_asg (pe_tup (pa_cons p1 (pa_cons p2 pa_nil h2) h1)) (pg_tup hc (pgs_cons (pg_name hN hi hx hfx) (pgs_cons (pg_name hN hj hy hfy) pgs_nil h7) h6) h4 h5) hs hw h3, fun T ρ σ H E D r h k => ?_⟩
  refine k1 T ρ σ H _ _ r h fun s1 ρ1 v H1 f1 q1 h => k2 (s1.temps v T) ρ1 σ H1 _ _ f1.rs h fun s2 ρ2 w H2 f2 q2 h => ⟨by show 2 ≤ sizeLine; decide, fun l hl => ?_⟩
  obtain ⟨r3, q3⟩ := par_fin hij r f1 q1 (f2.grow (Ex.new hl)) (q2.trans (.grow (Ex.new hl)))
  exact ⟨l, [v, w], rfl, .inl (.inl upd_same), rfl, _, _, rfl, _, _, rfl, rfl, k.nx _ _ _ r3 q3 h⟩

/-! ### what is walked -/
structure ItOk (K : PySem.W.Frag) (J : It) (G : Hp) (ds : List D) : Prop where
  stop : ∀ H, Ex G H → J.stop ds.length H
  step : ∀ (i : Nat) (d : D) (H : Hp), ds[i]? = some d → Ex G H → J.go i H ∧ ∀ x H', J.yld i H x H' → Ex H H' ∧ ∀ O : Addr → Prop, (∀ a, O a → H a ≠ none) → Ex G (hide O H) → Rp K (hide O H') x d
structure JI (X : Cx) (tg iter : Expr) (f : DL) : Prop where
  ex : ∃ wi, PI X tg iter wi ∧ ∀ (T : Addr → Prop) (ρ : Env) (σ : L2.St) (H : Hp) (QD : List D → Env → Prop) (R : It → Hp → Prop), RS X.K T ρ σ H → f ρ QD →
    (∀ ds ρ' J H', RS X.K T ρ' σ H' → Po ρ σ H ρ' σ H' → ItOk X.K J (hide (Hd T ρ' σ) H') ds → QD ds ρ' → R J H') → wi σ H R
theorem it_list {K : PySem.W.Frag} {G : Hp} {a : Addr} {xs : List V} {ds : List D} (h : SqL K G a xs) (r : RpAll K G xs ds) : ItOk K (Itl K a) G ds :=
  ⟨fun H e => ⟨xs, ex_l e h, by rw [r.length]; exact Nat.le_refl _⟩, fun i d H hd e => by
    obtain ⟨v, h1, h2⟩ := r.get hd
    refine ⟨⟨xs, v, ex_l e h, h1⟩, fun x H' y => ?_⟩
    obtain ⟨rfl, y⟩ := y
    have := y xs (ex_l e h)
    rw [h1] at this; cases this
    exact ⟨Ex.refl _, fun O _ eo => h2.mono eo⟩⟩
theorem it_tup {K : PySem.W.Frag} {G : Hp} {a : Addr} {xs : List V} {ds : List D} (h : SqT K G a xs) (r : RpAll K G xs ds) : ItOk K (Itt K a) G ds :=
  ⟨fun H e => ⟨xs, ex_t e h, by rw [r.length]; exact Nat.le_refl _⟩, fun i d H hd e => by
    obtain ⟨v, h1, h2⟩ := r.get hd
    refine ⟨⟨xs, v, ex_t e h, h1⟩, fun x H' y => ?_⟩
    obtain ⟨rfl, y⟩ := y
    have := y xs (ex_t e h)
    rw [h1] at this; cases this
    exact ⟨Ex.refl _, fun O _ eo => h2.mono eo⟩⟩
theorem it_range {K : PySem.W.Frag} {G : Hp} (i j : Int) : ItOk K (Itr i (j - i).toNat) G (rgD i j) :=
  ⟨fun H e => by show (j - i).toNat ≤ (rgD i j).length; unfold rgD; simp, fun k d H hd e => by
    unfold rgD at hd
    rw [List.getElem?_map] at hd
    obtain ⟨m, hm, rfl⟩ := Option.map_eq_some_iff.mp hd
    obtain ⟨hk, hm⟩ := List.getElem?_eq_some_iff.mp hm
    simp at hk hm
    subst hm
    refine ⟨by show k < (j - i).toNat; omega, fun x H' y => ?_⟩
    obtain ⟨rfl, rfl⟩ := y
    exact ⟨Ex.refl _, fun O _ eo => .int _⟩⟩
variable {tg : Expr}
/-- over a list, told by its kind -/
def iLs (f : DE) : DL := fun ρ Q => f ρ fun d ρ1 => match d with
  | .list ds => Q ds ρ1
  | _ => False
def iTp (f : DE) : DL := fun ρ Q => f ρ fun d ρ1 => match d with
  | .tuple ds => Q ds ρ1
  | _ => False
theorem ji_list (ha : JE X a fa) : JI X tg a (iLs fa) := by
  obtain ⟨t, pt, kt⟩ := ha.ex
  refine ⟨_, pi_list pt, fun T ρ σ H QD R r h q => kt T ρ σ H _ _ r h fun d ρ1 v H1 r1 p1 v1 h => ?_⟩
  cases v1 with
  | lst hp rr => exact ⟨_, rfl, ⟨_, .inl (.inl (at_of hp))⟩, q _ _ _ _ r1 p1 (it_list (.inl (.inl hp)) rr) h⟩
  | _ => exact False.elim h
theorem ji_tup (ha : JE X a fa) : JI X tg a (iTp fa) := by
  obtain ⟨t, pt, kt⟩ := ha.ex
  refine ⟨_, pi_tup pt, fun T ρ σ H QD R r h q => kt T ρ σ H _ _ r h fun d ρ1 v H1 r1 p1 v1 h => ?_⟩
  cases v1 with
  | tup hp rr => exact ⟨_, rfl, ⟨_, sqt_of hp⟩, q _ _ _ _ r1 p1 (it_tup (lt_of hp) rr) h⟩
  | _ => exact False.elim h
/-- over an owned list: from there on it stands as it is -/
def iOw (i : Nat) : DL := fun ρ Q => match ρ[i]? with
  | some (some (.ow (.lst ds))) => Q ds (ρ.set i (some (.im (.list ds))))
  | _ => False
theorem ji_own {i : Nat} {px : Pos} (hN : X.N[i]? = some x) (hv : Vis X.env.scope x) (hd : (x == ("__debug__" : Str)) = false := by decide) (hcd : (x == ("__classdict__" : Str)) = false := by decide) : JI X tg (.Name x px) (iOw i) := by
  refine ⟨_, pi_list (pe_var hN hv hd hcd), fun T ρ σ H QD R r h q => ?_⟩
  unfold iOw at h
  split at h
  · rename_i ds e1
    have rf := r.freeze e1
    obtain ⟨v, hv, rv⟩ := rf.im i (.list ds) (List.getElem?_set_self (List.getElem?_eq_some_iff.mp e1).1)
    cases rv with
    | lst hp rr => exact ⟨_, hv, _, rfl, ⟨_, .inl (.inl (at_of hp))⟩, q _ _ _ _ rf .freeze (it_list (.inl (.inl hp)) rr) h⟩
  · exact False.elim h
def iR1 (f : DE) : DL := fun ρ Q => f ρ fun d ρ1 => match d with
  | .int n => RgD 0 n ∧ Q (rgD 0 n) ρ1
  | _ => False
def iR2 (f g : DE) : DL := fun ρ Q => f ρ fun d ρ1 => g ρ1 fun e ρ2 => match d, e with
  | .int i, .int j => RgD i j ∧ Q (rgD i j) ρ2
  | _, _ => False
theorem ji_r1 (hm : X.mg "range" = none) (ha : JE X a fa) (hg : Gl X "range" := by rfl) (hs : starEach [a] X.env = [(false, eval a X.env)] := by rfl) : JI X tg (.Call (.Name "range" p) [a] [] pos) (iR1 fa) := by
  obtain ⟨t, pt, kt⟩ := ha.ex
  refine ⟨_, pi_range1 hg hm (pa_cons pt pa_nil hs) hs, fun T ρ σ H QD R r h q => kt T ρ σ H _ _ r h fun d ρ1 v H1 r1 p1 v1 h => ?_⟩
  cases v1 with
  | int n =>
    obtain ⟨⟨_, _, h1, h2⟩, h⟩ := h
    have z := q _ _ _ _ r1 p1 (it_range (K := X.K) 0 n) h
    rw [show (n - 0).toNat = n.toNat from by congr 1; omega] at z
    exact ⟨n, rfl, by omega, by omega, z⟩
  | _ => exact False.elim h
theorem ji_r2 (hm : X.mg "range" = none) (ha : JE X a fa) (hb : JE X b fb) (hg : Gl X "range" := by rfl) (hs : starEach [a, b] X.env = [(false, eval a X.env), (false, eval b X.env)] := by rfl) (hs2 : starEach [b] X.env = [(false, eval b X.env)] := by rfl) : JI X tg (.Call (.Name "range" p) [a, b] [] pos) (iR2 fa fb) := by
  obtain ⟨t, pt, kt⟩ := ha.ex
  obtain ⟨t2, pt2, kt2⟩ := hb.ex
  refine ⟨_, pi_range2 hg hm (pa_cons pt (pa_cons pt2 pa_nil hs2) (by rw [hs, hs2])) hs hs2, fun T ρ σ H QD R r h q => kt T ρ σ H _ _ r h fun d ρ1 v H1 r1 p1 v1 h => kt2 T ρ1 σ H1 _ _ r1 h fun d ρ2 w H2 r2 p2 v2 h => ?_⟩
  cases v1 <;> cases v2 <;> first | exact False.elim h | skip
  obtain ⟨⟨h1, h2, h3, h4⟩, h⟩ := h
  exact ⟨_, _, rfl, ⟨by omega, by omega, by omega, by omega⟩, q _ _ _ _ r2 (p1.trans p2) (it_range (K := X.K) _ _) h⟩
/-- enumerate of a list -/
def enD (ds : List D) : List D := (List.range ds.length).zipWith (fun k d => .tuple [.int (k : Nat), d]) ds
theorem enD_get {ds : List D} {i : Nat} {d : D} (h : (enD ds)[i]? = some d) : ∃ e, ds[i]? = some e ∧ d = .tuple [.int (i : Nat), e] := by
  unfold enD at h
  rw [List.getElem?_zipWith] at h
  by_cases hi : i < ds.length
  · rw [List.getElem?_range hi, List.getElem?_eq_getElem hi] at h
    simp at h
    exact ⟨_, List.getElem?_eq_getElem hi, h.symm⟩
  · rw [List.getElem?_eq_none_iff.mpr (show ds.length ≤ i by omega)] at h
    cases hr : (List.range ds.length)[i]? <;> rw [hr] at h <;> cases h
theorem enD_len {ds : List D} : (enD ds).length = ds.length := by unfold enD; simp
def iEnL (f : DE) : DL := fun ρ Q => f ρ fun d ρ1 => match d with
  | .list ds => Q (enD ds) ρ1
  | _ => False
theorem ji_enumL {elts : List Expr} {kk : Nat} {tpos : Pos} (hm : X.mg "enumerate" = none) (ha : JE X a fa) (hg : Gl X "enumerate" := by rfl) (hs : starEach [a] X.env = [(false, eval a X.env)] := by rfl) : JI X (.Tuple elts kk tpos) (.Call (.Name "enumerate" p) [a] [] pos) (iEnL fa) := by
  obtain ⟨t, pt, kt⟩ := ha.ex
  refine ⟨_, pi_enum hg hm (pa_cons pt pa_nil hs) hs, fun T ρ σ H QD R r h q => kt T ρ σ H _ _ r h fun d ρ1 v H1 r1 p1 v1 h => ?_⟩
  cases v1 with
  | @lst a xs ds hp rr =>
    refine ⟨_, _, rfl, .inl (.inl (at_of hp)), q _ _ _ _ r1 p1 ⟨fun H e => ⟨xs, .inl (.inl (e _ _ hp)), by rw [enD_len, rr.length]; exact Nat.le_refl _⟩, fun i d H hd e => ?_⟩ h⟩
    obtain ⟨g, hg, rfl⟩ := enD_get hd
    obtain ⟨u, hu, ru⟩ := rr.get hg
    refine ⟨⟨xs, u, .inl (.inl (e _ _ hp)), hu⟩, fun x H' y => ?_⟩
    obtain ⟨l, z, rfl, hl, rfl, y⟩ := y
    have := y xs (.inl (.inl (e _ _ hp)))
    rw [hu] at this; cases this
    exact ⟨Ex.new hl, fun O hO eo => rp_newT hO hl (.cons (.int _) (.cons (ru.mono eo) .nil))⟩
  | _ => exact False.elim h
end
end Dn
set_option Elab.async false
set_option linter.all false
set_option maxRecDepth 100000
set_option autoImplicit false
set_option maxHeartbeats 4000000
namespace Dn
open PySem L2 Evl
/-! ### loops -/
def wpFor (g : DG) (body : DS) (E : DEnds) : List D → Env → Prop
  | [], ρ => E.nx ρ
  | d :: ds, ρ => g d ρ fun ρ1 => body { nx := fun ρ2 => wpFor g body E ds ρ2, ct := fun ρ2 => wpFor g body E ds ρ2, bk := E.nx, rt := E.rt } ρ1
def sFor (fi : DL) (g : DG) (body : DS) : DS := fun E ρ => fi ρ fun ds ρ1 => wpFor g body E ds ρ1
def wpWh (c : DT) (body : DS) (E : DEnds) : Nat → Env → Prop
  | 0, _ => False
  | n + 1, ρ => c ρ fun b ρ1 => if b = true then body { nx := wpWh c body E n, ct := wpWh c body E n, bk := E.nx, rt := E.rt } ρ1 else E.nx ρ1
def sWh (c : DT) (body : DS) : DS := fun E ρ => ∃ n, wpWh c body E n ρ
section
variable {X : Cx} {a b c e : Expr} {fa fb fc : DE} {pos p : Pos} {es : List Expr} {x y : Str}
theorem js_for {tg iter : Expr} {body : List Stmt} {fi : DL} {g : DG} {vs : List Nat} {f : DS} (hc : X.calm = true) (hi : JI X tg iter fi) (hg : JG X tg vs g) (hb : JSs X body f) (hp : PassesOwn (model X.prog X.w) X.A X.env X.xe := by exact PassesOwn.never)
    (hs : ∀ x, foldedSetIterable iter X.env x = pure x := by intro _; rfl) : JS X (.For tg iter body [] pos) (sFor fi g f) := by
  obtain ⟨wi, pi, ki⟩ := hi.ex
  obtain ⟨tg', pg, kg⟩ := hg.ex
  obtain ⟨tb, pb, kb⟩ := hb.ex
  refine ⟨_, ps_for hp hc pi pg pb hs, fun T ρ σ H E D r h k => ki T ρ σ H _ _ r h fun ds ρ1 J H1 r1 p1 it h => ?_⟩
  refine ⟨fun i m σ' H' => i ≤ ds.length ∧ m = ds.length - i ∧ ∃ ρ', RS X.K T ρ' σ' H' ∧ Po ρ1 σ H1 ρ' σ' H' ∧ wpFor g f E (ds.drop i) ρ', ⟨ds.length, Nat.zero_le _, rfl, ρ1, r1, .refl, h⟩, ?_⟩
  rintro i m σ' H' ⟨hi, rfl, ρ', r', p', h⟩
  have eG : Ex (hide (Hd T ρ1 σ) H1) H' := (p'.fz (T := T)).trans hide_ex
  by_cases hl : i < ds.length
  · rw [List.drop_eq_getElem_cons hl] at h
    obtain ⟨go, st⟩ := it.step i ds[i] H' (List.getElem?_eq_getElem hl) eG
    refine .inr ⟨go, fun σ2 H2 => ∃ ρ2, RS X.K T ρ2 σ2 H2 ∧ Po ρ1 σ H1 ρ2 σ2 H2 ∧ wpFor g f E (ds.drop (i + 1)) ρ2, fun σ2 H2 ⟨ρ2, a1, a2, a3⟩ => ⟨ds.length - (i + 1), by omega, by omega, rfl, ρ2, a1, a2, a3⟩, fun v H2 hy => ?_⟩
    obtain ⟨ex, rv⟩ := st v H2 hy
    have r2 := r'.grow ex
    have p2 := p'.trans (Po.grow (ρ := ρ') (σ := σ') ex)
    refine kg T ρ' σ' H2 v _ _ _ r2 (rv _ (fun a => r'.hdDom) (p'.fz (T := T))) h fun ρ3 σ3 r3 p3 _ h => ?_
    refine kb T ρ3 σ3 H2 _ _ r3 h ⟨fun ρ4 σ4 H4 r4 p4 h => ⟨ρ4, r4, (p2.trans p3).trans p4, h⟩, fun d ρ4 σ4 v4 H4 r4 p4 v5 h => k.rt d ρ4 σ4 v4 H4 r4 ((p1.trans (p2.trans p3)).trans p4) v5 h, fun ρ4 σ4 H4 r4 p4 h => k.nx ρ4 σ4 H4 r4 ((p1.trans (p2.trans p3)).trans p4) h, fun ρ4 σ4 H4 r4 p4 h => ⟨ρ4, r4, (p2.trans p3).trans p4, h⟩⟩
  · have e : i = ds.length := by omega
    subst e
    rw [List.drop_length] at h
    exact .inl ⟨it.stop H' eG, k.nx _ _ _ r' (p1.trans p') h⟩
theorem js_while {body : List Stmt} {g : DT} {f : DS} (hc : JT X c g) (hb : JSs X body f) (hp : PassesOwn (model X.prog X.w) X.A X.env X.xe := by exact PassesOwn.never) : JS X (.While c body [] pos) (sWh g f) := by
  obtain ⟨tc, pc, kc⟩ := hc.ex
  obtain ⟨tb, pb, kb⟩ := hb.ex
  refine ⟨_, ps_while hp pc pb, fun T ρ σ H E D r h k => ?_⟩
  obtain ⟨n, h⟩ := h
  refine ⟨fun m σ' H' => ∃ ρ', RS X.K T ρ' σ' H' ∧ Po ρ σ H ρ' σ' H' ∧ wpWh g f E m ρ', ⟨n, ρ, r, .refl, h⟩, ?_⟩
  rintro m σ' H' ⟨ρ', r', p', h⟩
  cases m with
  | zero => exact False.elim h
  | succ m =>
    refine kc T ρ' σ' H' _ _ r' h fun b ρ1 H1 r1 p1 h => ?_
    cases b with
    | false => exact k.nx _ _ _ r1 (p'.trans p1) h
    | true =>
      rw [if_pos rfl] at h ⊢
      refine ⟨fun σ2 H2 => ∃ ρ2, RS X.K T ρ2 σ2 H2 ∧ Po ρ σ H ρ2 σ2 H2 ∧ wpWh g f E m ρ2, fun σ2 H2 ⟨ρ2, a1, a2, a3⟩ => ⟨m, Nat.lt_succ_self m, ρ2, a1, a2, a3⟩, ?_⟩
      have q := p'.trans p1
      exact kb T ρ1 σ' H1 _ _ r1 h ⟨fun ρ4 σ4 H4 r4 p4 h => ⟨ρ4, r4, q.trans p4, h⟩, fun d ρ4 σ4 v4 H4 r4 p4 v5 h => k.rt d ρ4 σ4 v4 H4 r4 (q.trans p4) v5 h, fun ρ4 σ4 H4 r4 p4 h => k.nx ρ4 σ4 H4 r4 (q.trans p4) h, fun ρ4 σ4 H4 r4 p4 h => ⟨ρ4, r4, q.trans p4, h⟩⟩

/-! ### list comprehensions -/
def wipeD (ρ : Env) : List Nat → Env
  | [] => ρ
  | v :: vs => (wipeD ρ vs).set v none
section
variable {K : PySem.W.Frag} {T : Addr → Prop} {ρ ρ' : Env} {σ σ' : L2.St} {H H' : Hp}
theorem own_congr (hs : ∀ (i : Nat) (sv : SV), ρ[i]? = some (some sv) → σ'[i]? = σ[i]?) {a : Addr} (w : Own ρ σ' a) : Own ρ σ a := by
  obtain ⟨i, m, h1, h2⟩ := w
  exact ⟨i, m, h1, by rw [← hs i _ h1]; exact h2⟩
theorem RS.congr (r : RS K T ρ σ H) (hl : σ'.length = σ.length) (hs : ∀ (i : Nat) (sv : SV), ρ[i]? = some (some sv) → σ'[i]? = σ[i]?) : RS K T ρ σ' H := by
  have e : Ex (hide (Hd T ρ σ) H) (hide (Hd T ρ σ') H) := hide_sub fun a w => w.elim .inl fun w => .inr (own_congr hs w)
  refine ⟨by rw [r.len, hl], fun i d h => ?_, fun i m h => ?_, fun i j m m' a h1 h2 h3 h4 => ?_, fun a t w => r.dis a t (own_congr hs w), r.dom, fun i p m a h1 h2 => by rw [hs i _ h1] at h2; exact r.tag i p m a h1 h2⟩
  · obtain ⟨v, h1, h2⟩ := r.im i d h; exact ⟨v, by rw [hs i _ h]; exact h1, h2.mono e⟩
  · obtain ⟨a, o, h1, h2, h3⟩ := r.ow i m h; exact ⟨a, o, by rw [hs i _ h]; exact h1, h2, h3.mono e⟩
  · rw [hs i _ h1] at h3; rw [hs j _ h2] at h4; exact r.inj i j m m' a h1 h2 h3 h4
theorem own_drop {i : Nat} {a : Addr} (w : Own (ρ.set i none) σ a) : Own ρ σ a := by
  obtain ⟨j, m, h1, h2⟩ := w
  rcases getset h1 with ⟨_, _, h⟩ | ⟨_, h⟩
  · cases h
  · exact ⟨j, m, h, h2⟩
theorem RS.drop {i : Nat} (r : RS K T ρ σ H) : RS K T (ρ.set i none) σ H := by
  have e : Ex (hide (Hd T ρ σ) H) (hide (Hd T (ρ.set i none) σ) H) := hide_sub fun a w => w.elim .inl fun w => .inr (own_drop w)
  refine ⟨by simp [r.len], fun j d h => ?_, fun j m h => ?_, fun j k m m' a h1 h2 h3 h4 => ?_, fun a t w => r.dis a t (own_drop w), r.dom, fun j p m a h1 h2 => ?_⟩
  · rcases getset h with ⟨_, _, h⟩ | ⟨_, h⟩
    · cases h
    · obtain ⟨v, h1, h2⟩ := r.im j d h; exact ⟨v, h1, h2.mono e⟩
  · rcases getset h with ⟨_, _, h⟩ | ⟨_, h⟩
    · cases h
    · obtain ⟨a, o, h1, h2, h3⟩ := r.ow j m h; exact ⟨a, o, h1, h2, h3.mono e⟩
  · rcases getset h1 with ⟨_, _, h1⟩ | ⟨_, h1⟩
    · cases h1
    · rcases getset h2 with ⟨_, _, h2⟩ | ⟨_, h2⟩
      · cases h2
      · exact r.inj j k m m' a h1 h2 h3 h4
  · rcases getset h1 with ⟨_, _, h1⟩ | ⟨_, h1⟩
    · cases h1
    · exact r.tag j p m a h1 h2
theorem Po.drop {i : Nat} : Po ρ σ H (ρ.set i none) σ H := ⟨fun _ _ _ h => h, fun a w => .inl (own_drop w), fun _ h => h⟩
theorem RS.dropAll (r : RS K T ρ σ H) : ∀ vs : List Nat, RS K T (wipeD ρ vs) σ H
  | [] => r
  | v :: vs => (RS.dropAll r vs).drop
theorem Po.dropAll : ∀ vs : List Nat, Po ρ σ H (wipeD ρ vs) σ H
  | [] => .refl
  | v :: vs => (Po.dropAll vs).trans .drop
theorem wipeD_none : ∀ (vs : List Nat) (i : Nat) (sv : SV), (wipeD ρ vs)[i]? = some (some sv) → i ∉ vs
  | [], _, _, _ => by simp
  | v :: vs, i, sv, h => by
    rcases getset (show ((wipeD ρ vs).set v none)[i]? = _ from h) with ⟨_, _, h⟩ | ⟨ne, h⟩
    · cases h
    · intro z
      rcases List.mem_cons.mp z with z | z
      · exact ne z.symm
      · exact wipeD_none vs i sv h z
theorem wipe_ne : ∀ (vs : List Nat) (i : Nat), i ∉ vs → (wipe σ vs)[i]? = σ[i]?
  | [], _, _ => rfl
  | v :: vs, i, h => by
    show ((wipe σ vs).set v none)[i]? = _
    rw [List.getElem?_set_ne (fun z => h (by rw [z]; exact List.mem_cons_self)), wipe_ne vs i fun z => h (List.mem_cons_of_mem _ z)]
/-- the slots vs are forgotten: what stands there does not matter -/
theorem RS.wiped (r : RS K T ρ σ H) (vs : List Nat) : RS K T (wipeD ρ vs) (wipe σ vs) H := (r.dropAll vs).congr (wipe_length σ vs) fun i sv h => wipe_ne vs i (wipeD_none vs i sv h)
theorem own_wipe {vs : List Nat} {a : Addr} (w : Own (wipeD ρ vs) (wipe σ vs) a) : Own ρ σ a := by
  have w' : Own (wipeD ρ vs) σ a := own_congr (fun i sv h => wipe_ne vs i (wipeD_none vs i sv h)) w
  rcases (Po.dropAll (ρ := ρ) (σ := σ) (H := fun _ => some (.tup [])) vs).own a w' with h | h
  · exact h
  · cases h
theorem Po.wiped (vs : List Nat) : Po ρ σ H (wipeD ρ vs) (wipe σ vs) H := ⟨fun _ _ _ h => h, fun a w => .inl (own_wipe w), fun _ h => h⟩
theorem RS.unwipe {vs : List Nat} (r : RS K T (wipeD ρ vs) (wipe σ vs) H) : RS K T (wipeD ρ vs) σ H := r.congr (wipe_length σ vs).symm fun i sv h => (wipe_ne vs i (wipeD_none vs i sv h)).symm
theorem own_unwipe {vs : List Nat} {a : Addr} (w : Own (wipeD ρ vs) σ a) : Own (wipeD ρ vs) (wipe σ vs) a := own_congr (fun i sv h => (wipe_ne vs i (wipeD_none vs i sv h)).symm) w
end
structure JTs (X : Cx) (ifs : List Expr) (f : DT) : Prop where
  ex : ∃ t, PTs X ifs t ∧ ∀ (T : Addr → Prop) (ρ : Env) (σ : L2.St) (H : Hp) (QD : Bool → Env → Prop) (Q : Bool → Hp → Prop), RS X.K T ρ σ H → f ρ QD →
    (∀ b ρ' H', RS X.K T ρ' σ H' → Po ρ σ H ρ' σ H' → QD b ρ' → Q b H') → t σ H Q
def dYes : DT := fun ρ Q => Q true ρ
theorem jts_nil : JTs X [] dYes := ⟨tYes, pts_nil, fun T ρ σ H QD Q r h q => q _ _ _ r .refl h⟩
theorem jts_one {g : DT} (h : JT X c g) : JTs X [c] g := let ⟨t, pt, k⟩ := h.ex; ⟨t, pts_one pt, k⟩
/-- the readings as they are used in a block -/
def teOf (K : PySem.W.Frag) (f : DE) : TE := fun σ H Q => ∃ (T : Addr → Prop) (ρ : Env) (QD : D → Env → Prop), RS K T ρ σ H ∧ f ρ QD ∧ ∀ d ρ' v H', RS K T ρ' σ H' → Po ρ σ H ρ' σ H' → Rp K (hide (Hd T ρ' σ) H') v d → QD d ρ' → Q v H'
def ttOf (K : PySem.W.Frag) (f : DT) : TT := fun σ H Q => ∃ (T : Addr → Prop) (ρ : Env) (QD : Bool → Env → Prop), RS K T ρ σ H ∧ f ρ QD ∧ ∀ d ρ' H', RS K T ρ' σ H' → Po ρ σ H ρ' σ H' → QD d ρ' → Q d H'
def tgOf (K : PySem.W.Frag) (vs : List Nat) (g : DG) : TG := fun v σ H Q => ∃ (T : Addr → Prop) (ρ : Env) (d : D) (QD : Env → Prop), RS K T ρ σ H ∧ Rp K (hide (Hd T ρ σ) H) v d ∧ g d ρ QD ∧ ∀ ρ' σ', RS K T ρ' σ' H → Po ρ σ H ρ' σ' H → wipe σ' vs = wipe σ vs → QD ρ' → Q σ' H
theorem JE.pe (h : JE X e fa) : PE X e (teOf X.K fa) := by
  obtain ⟨t, pt, k⟩ := h.ex
  exact ⟨fun pins s σ H Q I ⟨T, ρ, QD, r, h, q⟩ => pt.run pins s σ H Q I (k T ρ σ H QD Q r h q)⟩
theorem JTs.pts {ifs : List Expr} {g : DT} (h : JTs X ifs g) : PTs X ifs (ttOf X.K g) := by
  obtain ⟨t, pt, k⟩ := h.ex
  exact ⟨fun pins s σ H Q I ⟨T, ρ, QD, r, h, q⟩ => pt.run pins s σ H Q I (k T ρ σ H QD Q r h q)⟩
theorem JG.pg {tg : Expr} {vs : List Nat} {g : DG} (h : JG X tg vs g) : PG X tg (tgOf X.K vs g) := by
  obtain ⟨t, pt, k⟩ := h.ex
  exact ⟨fun pins s σ H v u Q I rv ⟨T, ρ, d, QD, r, r2, h, q⟩ => pt.run pins s σ H v u Q I rv (k T ρ σ H v d QD Q r r2 h q)⟩
def wpLc (g : DG) (tt : DT) (te : DE) (vs : List Nat) (Q : List D → Env → Prop) : List D → List D → Env → Prop
  | [], acc, ρ => Q acc ρ
  | d :: ds, acc, ρ => acc.length < 16777216 ∧ g d (wipeD ρ vs) fun ρ1 => tt ρ1 fun b ρ2 => if b = true then te ρ2 fun y ρ3 => wpLc g tt te vs Q ds (acc ++ [y]) (wipeD ρ3 vs) else wpLc g tt te vs Q ds acc (wipeD ρ2 vs)
def lLc (fi : DL) (g : DG) (tt : DT) (te : DE) (vs : List Nat) : DL := fun ρ Q => fi ρ fun ds ρ1 => wpLc g tt te vs Q ds [] (wipeD ρ1 vs)
theorem wipeD_idem {ρ : Env} : ∀ vs : List Nat, wipeD (wipeD ρ vs) vs = wipeD ρ vs := by
  intro vs
  apply List.ext_getElem?
  intro i
  have len : ∀ (ρ : Env) (vs : List Nat), (wipeD ρ vs).length = ρ.length := fun ρ vs => by
    induction vs with
    | nil => rfl
    | cons v vs ih => show ((wipeD ρ vs).set v none).length = _; rw [List.length_set, ih]
  have at1 : ∀ (ρ : Env) (vs : List Nat), (wipeD ρ vs)[i]? = if i ∈ vs then (if i < ρ.length then some none else none) else ρ[i]? := fun ρ vs => by
    induction vs with
    | nil => simp [wipeD]
    | cons v vs ih =>
      show ((wipeD ρ vs).set v none)[i]? = _
      by_cases e : v = i
      · subst e
        by_cases hl : v < ρ.length
        · rw [List.getElem?_set_self (by rw [len]; exact hl)]; simp [hl]
        · rw [List.getElem?_eq_none_iff.mpr (by rw [List.length_set, len]; omega)]; simp [hl]
      · rw [List.getElem?_set_ne e, ih]
        simp only [List.mem_cons, show ¬ i = v from fun z => e z.symm, false_or]
  rw [at1, at1, len]
  by_cases h : i ∈ vs <;> simp [h]
theorem wipe_idem (ρ : L2.St) : ∀ vs : List Nat, wipe (wipe ρ vs) vs = wipe ρ vs := by
  intro vs
  apply List.ext_getElem?
  intro i
  have len : ∀ (ρ : L2.St) (vs : List Nat), (wipe ρ vs).length = ρ.length := fun ρ vs => by
    induction vs with
    | nil => rfl
    | cons v vs ih => show ((wipe ρ vs).set v none).length = _; rw [List.length_set, ih]
  have at1 : ∀ (ρ : L2.St) (vs : List Nat), (wipe ρ vs)[i]? = if i ∈ vs then (if i < ρ.length then some none else none) else ρ[i]? := fun ρ vs => by
    induction vs with
    | nil => simp [wipe]
    | cons v vs ih =>
      show ((wipe ρ vs).set v none)[i]? = _
      by_cases e : v = i
      · subst e
        by_cases hl : v < ρ.length
        · rw [List.getElem?_set_self (by rw [len]; exact hl)]; simp [hl]
        · rw [List.getElem?_eq_none_iff.mpr (by rw [List.length_set, len]; omega)]; simp [hl]
      · rw [List.getElem?_set_ne e, ih]
        simp only [List.mem_cons, show ¬ i = v from fun z => e z.symm, false_or]
  rw [at1, at1, len]
  by_cases h : i ∈ vs <;> simp [h]
theorem lc_read {tg iter : Expr} {vs : List Nat} {fi : DL} {g : DG} {tt : DT} {te : DE} (hi : JI X tg iter fi) : ∃ wi, PI X tg iter wi ∧ ∀ (T : Addr → Prop) (ρ : Env) (σ : L2.St) (H : Hp) (QD : List D → Env → Prop) (Q : VK), RS X.K T ρ σ H → lLc fi g tt te vs ρ QD →
    (∀ ds ρ' p vs H', H p = none → H' p = some (.lst vs) → RS X.K (plus T p) ρ' σ H' → RpAll X.K (hide (Hd (plus T p) ρ' σ) H') vs ds → Po ρ σ H ρ' σ H' → QD ds ρ' → Q (.ref p) H') → tLc wi (tgOf X.K vs g) (ttOf X.K tt) (teOf X.K te) vs σ H Q := by
  obtain ⟨wi, pi, ki⟩ := hi.ex
  refine ⟨wi, pi, fun T ρ σ H QD Q r h q => ki T ρ σ H _ _ r h fun ds ρ1 J H1 r1 p1 it h => ?_⟩
  intro L hL
  -- kept: what was known at the start stands apart from the new list
  refine ⟨fun i m H' => i ≤ ds.length ∧ m = ds.length - i ∧ ∃ ρ' acc us, ρ' = wipeD ρ' vs ∧ RS X.K (plus T L) ρ' (wipe σ vs) H' ∧ Po ρ1 σ H1 ρ' (wipe σ vs) H' ∧ H' L = some (.lst us) ∧ RpAll X.K (hide (Hd (plus T L) ρ' (wipe σ vs)) H') us acc ∧ wpLc g tt te vs QD (ds.drop i) acc ρ',
    ⟨ds.length, Nat.zero_le _, rfl, wipeD ρ1 vs, [], [], (wipeD_idem vs).symm, (r1.laid hL).wiped vs, (Po.grow (Ex.new hL)).trans (.wiped vs), upd_same, .nil, h⟩, ?_⟩
  rintro i m H' ⟨hi, rfl, ρ', acc, us, ew, r', p', hl, ra, h⟩
  have eG : Ex (hide (Hd T ρ1 σ) H1) H' := (p'.fz (T := T)).trans hide_ex
  by_cases hlt : i < ds.length
  · rw [List.drop_eq_getElem_cons hlt] at h
    obtain ⟨hz, h⟩ := h
    obtain ⟨go, st⟩ := it.step i ds[i] H' (List.getElem?_eq_getElem hlt) eG
    refine .inr ⟨go, fun H2 => ∃ ρ2 acc us, ρ2 = wipeD ρ2 vs ∧ RS X.K (plus T L) ρ2 (wipe σ vs) H2 ∧ Po ρ1 σ H1 ρ2 (wipe σ vs) H2 ∧ H2 L = some (.lst us) ∧ RpAll X.K (hide (Hd (plus T L) ρ2 (wipe σ vs)) H2) us acc ∧ wpLc g tt te vs QD (ds.drop (i + 1)) acc ρ2,
      fun H2 w => ⟨ds.length - (i + 1), by omega, by omega, rfl, w⟩, fun v H2 hy => ?_⟩
    obtain ⟨ex, rv⟩ := st v H2 hy
    rw [← ew] at h
    have r2 := r'.grow ex
    have pa2 := p'.trans (Po.grow (ρ := ρ') (σ := wipe σ vs) ex)
    have ra2 := ra.mono (hide_grow (O := Hd (plus T L) ρ' (wipe σ vs)) ex)
    have nL : H1 L = none := hL
    have eO : Ex (hide (Hd T ρ1 σ) H1) (hide (Hd (plus T L) ρ' (wipe σ vs)) H') := fun a o w => by
      obtain ⟨n, w⟩ := hide_some.1 w
      obtain ⟨n2, w2⟩ := hide_some.1 ((p'.fz (T := T)) a o (hide_some.2 ⟨n, w⟩))
      refine hide_some.2 ⟨?_, w2⟩
      rintro ((t | t) | t)
      · subst t; rw [nL] at w; cases w
      · exact n2 (.inl t)
      · exact n2 (.inr t)
    refine ⟨plus T L, ρ', ds[i], _, r2, rv _ (fun a => r'.hdDom) eO, h, fun ρ3 σ3 r3 p3 w3 h => ⟨by rw [w3]; exact wipe_idem σ vs, plus T L, ρ3, _, r3, h, fun b ρ4 H4 r4 p4 h => ?_⟩⟩
    -- the new list is never the block's own
    have keepL : ∀ {ρa : Env} {σa : L2.St} {Ha Hb : Hp} {ρb : Env} {σb : L2.St} {o : HO}, RS X.K (plus T L) ρa σa Ha → Po ρa σa Ha ρb σb Hb → Ha L = some o → Hb L = some o := fun ra pab hh => pab.keep L _ (ra.dis L (.inl rfl)) hh
    have l4 : H4 L = some (.lst us) := keepL r2 (p3.trans p4) (ex _ _ hl)
    have ra4 := ra2.mono (((p3.trans p4)).fz (T := plus T L))
    have back : ∀ {ρ5 : Env} {H5 : Hp}, RS X.K (plus T L) ρ5 σ3 H5 → RS X.K (plus T L) (wipeD ρ5 vs) (wipe σ vs) H5 := fun {ρ5 H5} r5 => by
      have z := r5.wiped vs
      rw [w3, wipe_idem] at z
      exact z
    have pback : ∀ {ρ5 : Env} {H5 : Hp}, Po ρ1 σ H1 ρ5 σ3 H5 → Po ρ1 σ H1 (wipeD ρ5 vs) (wipe σ vs) H5 := fun {ρ5 H5} p5 => by
      have z := p5.trans (Po.wiped (ρ := ρ5) (σ := σ3) (H := H5) vs)
      rw [w3, wipe_idem] at z
      exact z
    cases b with
    | false =>
      refine ⟨wipeD ρ4 vs, acc, us, (wipeD_idem vs).symm, back r4, pback (pa2.trans (p3.trans p4)), l4, ?_, h⟩
      have z := ra4.mono ((Po.wiped (ρ := ρ4) (σ := σ3) (H := H4) vs).fz (T := plus T L))
      rw [w3, wipe_idem] at z
      exact z
    | true =>
      rw [if_pos rfl] at h
      dsimp only
      rw [if_pos rfl]
      refine ⟨plus T L, ρ4, _, r4, h, fun y ρ5 w H5 r5 p5 v5 h => ?_⟩
      have l5 : H5 L = some (.lst us) := keepL r4 p5 l4
      have ra5 := (ra4.mono (p5.fz (T := plus T L))).append (.cons v5 .nil)
      have aL : ∀ (o : HO), Ex (hide (Hd (plus T L) ρ5 σ3) H5) (hide (Hd (plus T L) ρ5 σ3) (upd H5 L o)) := fun o a u w => by
        obtain ⟨n, w⟩ := hide_some.1 w
        exact hide_some.2 ⟨n, by rw [upd_ne (fun z => n (.inl (.inl z)))]; exact w⟩
      have r6 : RS X.K (plus T L) ρ5 σ3 (upd H5 L (.lst (us ++ [w]))) := by
        refine ⟨r5.len, fun j d z => ?_, fun j m z => ?_, r5.inj, r5.dis, fun a t => ?_, r5.tag⟩
        · obtain ⟨u, h1, h2⟩ := r5.im j d z; exact ⟨u, h1, h2.mono (aL _)⟩
        · obtain ⟨a, o, h1, h2, h3⟩ := r5.ow j m z
          have ne : a ≠ L := fun e => by subst e; exact r5.dis a (.inl rfl) ⟨j, m, z, h1⟩
          exact ⟨a, o, h1, by rw [upd_ne ne]; exact h2, h3.mono (aL _)⟩
        · by_cases e : a = L
          · subst e; exact Lv.at fun _ z => nomatch z
          · exact (r5.dom a t).upd e
      have p6 : Po ρ1 σ H1 ρ5 σ3 (upd H5 L (.lst (us ++ [w]))) := by
        have z := (pa2.trans (p3.trans p4)).trans p5
        refine ⟨fun a o n hh => ?_, z.own, fun a hh => ?_⟩
        · rw [upd_ne (fun e => by subst e; rw [nL] at hh; cases hh)]; exact z.keep a o n hh
        · by_cases e : a = L
          · subst e; rw [upd_same]; simp
          · rw [upd_ne e]; exact z.dom a hh
      refine ⟨us, l5, by rw [ra.length]; exact hz, wipeD ρ5 vs, acc ++ [y], us ++ [w], (wipeD_idem vs).symm, back r6, pback p6, upd_same, ?_, h⟩
      have z := (ra5.mono (aL (.lst (us ++ [w])))).mono ((Po.wiped (ρ := ρ5) (σ := σ3) (H := upd H5 L (.lst (us ++ [w]))) vs).fz (T := plus T L))
      rw [w3, wipe_idem] at z
      exact z
  · have e : i = ds.length := by omega
    subst e
    rw [List.drop_length] at h
    refine .inl ⟨it.stop H' eG, ?_⟩
    rw [ew] at r' p' ra h
    refine q acc (wipeD ρ' vs) L us H' (none_back p1 hL) hl r'.unwipe (ra.mono ?_) ?_ h
    · exact hide_sub fun a w => w.elim .inl fun w => .inr (own_unwipe w)
    · exact p1.trans ⟨p'.keep, fun a w => p'.own a (own_unwipe w), p'.dom⟩
theorem jl_lc {elt tg iter : Expr} {ifs : List Expr} {scope : Scope} {own : List (Str × Nat)} {fi : DL} {g : DG} {tt : DT} {te : DE} (hc : X.calm = true) (hN : X.N.Nodup) (hi : JI X tg iter fi) (ok : BlkOk X.N X.env.scope scope own)
    (hg : ∀ (s : Shared) (H : Hp) (C : Addr) (cl : List (Str × Addr)) (fp : List Addr), JG (X.blk s H scope (compEnvC scope cl C X.env) fp) tg (own.map (·.2)) g) (ht : ∀ (s : Shared) (H : Hp) (C : Addr) (cl : List (Str × Addr)) (fp : List Addr), JTs (X.blk s H scope (compEnvC scope cl C X.env) fp) ifs tt)
    (he : ∀ (s : Shared) (H : Hp) (C : Addr) (cl : List (Str × Addr)) (fp : List Addr), JE (X.blk s H scope (compEnvC scope cl C X.env) fp) elt te) (hs : ∀ x, foldedSetIterable iter X.env x = pure x := by intro _; rfl) :
    JL X (.ListComp elt [⟨tg, iter, ifs, 0⟩] scope pos) (lLc fi g tt te (own.map (·.2))) := by
  obtain ⟨wi, pi, k⟩ := lc_read (vs := own.map (·.2)) (g := g) (tt := tt) (te := te) hi
  exact ⟨_, pe_lc (wi := wi) (g := tgOf X.K (own.map (·.2)) g) (tt := ttOf X.K tt) (te := teOf X.K te) hc hN pi ok (fun s H C cl fp => (hg s H C cl fp).pg) (fun s H C cl fp => (ht s H C cl fp).pts) (fun s H C cl fp => (he s H C cl fp).pe) hs, k⟩
/-- name = [..], the name a plain local -/
theorem js_lcO {i : Nat} {py spos : Pos} {elt tg iter : Expr} {ifs : List Expr} {scope : Scope} {own : List (Str × Nat)} {fi : DL} {g : DG} {tt : DT} {te : DE} (hc : X.calm = true) (hN : X.N.Nodup) (hy : X.N[i]? = some y) (hyl : X.env.scope.names.lookup y = some .local)
    (hsw : swapsWith (.ListComp elt [⟨tg, iter, ifs, 0⟩] scope pos) (some (.Name y py)) spos.line X.env = pure true) (hi : JI X tg iter fi) (ok : BlkOk X.N X.env.scope scope own)
    (hg : ∀ (s : Shared) (H : Hp) (C : Addr) (cl : List (Str × Addr)) (fp : List Addr), JG (X.blk s H scope (compEnvC scope cl C X.env) fp) tg (own.map (·.2)) g) (ht : ∀ (s : Shared) (H : Hp) (C : Addr) (cl : List (Str × Addr)) (fp : List Addr), JTs (X.blk s H scope (compEnvC scope cl C X.env) fp) ifs tt)
    (he : ∀ (s : Shared) (H : Hp) (C : Addr) (cl : List (Str × Addr)) (fp : List Addr), JE (X.blk s H scope (compEnvC scope cl C X.env) fp) elt te) (hs : ∀ x, foldedSetIterable iter X.env x = pure x := by intro _; rfl) :
    JS X (.Assign [.Name y py] (.ListComp elt [⟨tg, iter, ifs, 0⟩] scope pos) spos) (sSet i (xOw (lLc fi g tt te (own.map (·.2))))) := by
  obtain ⟨wi, pi, k⟩ := lc_read (vs := own.map (·.2)) (g := g) (tt := tt) (te := te) hi
  refine ⟨_, ps_setLc (wi := wi) (g := tgOf X.K (own.map (·.2)) g) (tt := ttOf X.K tt) (te := teOf X.K te) hc hN hy hyl hsw pi ok (fun s H C cl fp => (hg s H C cl fp).pg) (fun s H C cl fp => (ht s H C cl fp).pts) (fun s H C cl fp => (he s H C cl fp).pe) hs, fun T ρ σ H E D r h q => ?_⟩
  refine k T ρ σ H _ _ r h fun ds ρ1 l vs H1 n sl r1 v1 p1 h => ?_
  obtain ⟨r2, q2⟩ := fits_set (i := i) (sv := .ow (.lst ds)) r p1 ⟨l, .lst vs, rfl, n, sl, r1, v1, fun _ _ z => nomatch z⟩
  exact q.nx _ _ _ r2 q2 h
theorem js_lcF {i : Nat} {py spos : Pos} {elt tg iter : Expr} {ifs : List Expr} {scope : Scope} {own : List (Str × Nat)} {fi : DL} {g : DG} {tt : DT} {te : DE} (hc : X.calm = true) (hN : X.N.Nodup) (hy : X.N[i]? = some y) (hyl : X.env.scope.names.lookup y = some .local)
    (hsw : swapsWith (.ListComp elt [⟨tg, iter, ifs, 0⟩] scope pos) (some (.Name y py)) spos.line X.env = pure true) (hi : JI X tg iter fi) (ok : BlkOk X.N X.env.scope scope own)
    (hg : ∀ (s : Shared) (H : Hp) (C : Addr) (cl : List (Str × Addr)) (fp : List Addr), JG (X.blk s H scope (compEnvC scope cl C X.env) fp) tg (own.map (·.2)) g) (ht : ∀ (s : Shared) (H : Hp) (C : Addr) (cl : List (Str × Addr)) (fp : List Addr), JTs (X.blk s H scope (compEnvC scope cl C X.env) fp) ifs tt)
    (he : ∀ (s : Shared) (H : Hp) (C : Addr) (cl : List (Str × Addr)) (fp : List Addr), JE (X.blk s H scope (compEnvC scope cl C X.env) fp) elt te) (hs : ∀ x, foldedSetIterable iter X.env x = pure x := by intro _; rfl) :
    JS X (.Assign [.Name y py] (.ListComp elt [⟨tg, iter, ifs, 0⟩] scope pos) spos) (sSet i (xIm (dOfL (lLc fi g tt te (own.map (·.2)))))) := by
  obtain ⟨wi, pi, k⟩ := lc_read (vs := own.map (·.2)) (g := g) (tt := tt) (te := te) hi
  refine ⟨_, ps_setLc (wi := wi) (g := tgOf X.K (own.map (·.2)) g) (tt := ttOf X.K tt) (te := teOf X.K te) hc hN hy hyl hsw pi ok (fun s H C cl fp => (hg s H C cl fp).pg) (fun s H C cl fp => (ht s H C cl fp).pts) (fun s H C cl fp => (he s H C cl fp).pe) hs, fun T ρ σ H E D r h q => ?_⟩
  refine k T ρ σ H _ _ r h fun ds ρ1 l vs H1 n sl r1 v1 p1 h => ?_
  have rl : Rp X.K (hide (Hd T ρ1 σ) H1) (.ref l) (.list ds) := .lst (hide_some.2 ⟨fun w => by
    rcases w with w | w
    · exact (r.dom l w).1 n
    · exact r1.dis l (.inl rfl) w, sl⟩) (v1.mono hd_unplus)
  exact q.nx _ _ _ (r1.unplus.setIm rl) (p1.trans .setIm) h
end
end Dn
set_option Elab.async false
set_option linter.all false
set_option maxRecDepth 100000
set_option autoImplicit false
set_option maxHeartbeats 4000000
/-! enumerate of a tuple, from the iterators up -/
namespace PySem
open Sem (wp)
open AutoSeq1 (wpAny_loadPart')
theorem own_enum_new (tp : Addr) (its : Array Value) (nn : Nat) (dd : Option Addr) (ss : Array (Option Value)) :
    Meets (Builtin.«enumerate.__new__» ⟨[.type "enumerate", .ref tp], []⟩) (fun _ R st =>
      st.heap.get? tp = some { cls := .type "tuple", dict := dd, data := .seq its nn, slots := ss } ∧
      R (.ok (.ret (.ref (st.heap.push { cls := .type "tuple_iterator", data := .fields #[.ref tp, .int 0 0] }).objs.size)))
        { st with heap := (st.heap.push { cls := .type "tuple_iterator", data := .fields #[.ref tp, .int 0 0] }).push { cls := .type "enumerate", data := .fields #[.none, .bool false, .ref st.heap.objs.size, rawInt 0, .none, .none] } }) :=
  .of_wp fun prog w A R st h => by
    obtain ⟨hp, gg, dr, tk, oo⟩ := st
    obtain ⟨at_, h⟩ := h
    have isSub := sub_enumerate
    have isT : Heap.IsTuple (Shared.heap ⟨hp, gg, dr, tk, oo⟩) tp its := ⟨_, at_, rfl, nn, rfl⟩
    wp_walk using wpAny_loadPart' at_
    refine wpAny_stack_any fun _ => wpAny_pure ?_
    split
    · rename_i c _ _ _ _ _
      cases (c == Value.type "enumerate") <;>
      · wp_walk using wpAny_loadPart' at_, wpAny_pyIter_tuple isT
        exact ⟨_, rfl, h⟩
    · wp_walk using wpAny_loadPart' at_, wpAny_pyIter_tuple isT
      exact ⟨_, rfl, h⟩
theorem own_enum_call {prog : Program} {w : World} {A : Around} {E : Value → Shared → Prop} {st : Shared} {tp : Addr} {its : Array Value} {Q : Value → Shared → Prop} (isT : st.heap.IsTuple tp its)
    (h : ∀ hp : Heap, IsEnum hp (st.heap.objs.size + 1) st.heap.objs.size 0 .none → hp.IsTupleIter st.heap.objs.size tp 0 →
      (∀ b o, st.heap.get? b = some o → hp.get? b = some o) → Q (.ref (st.heap.objs.size + 1)) { st with heap := hp }) :
    wpAny (model prog w) A (call (.type "enumerate") [.ref tp]) Q E st := by
  obtain ⟨⟨cc, dd, dt, ss⟩, at_, hc, nn, hd⟩ := isT
  replace hc : cc = .type "tuple" := hc
  replace hd : dt = .seq its nn := hd
  subst hc hd
  refine callType_new F.called_enumerate (by decide) (F.typeCall_enumerate_1 _) (F.newCall_enumerate_1 _) (fun ob => F.args_object_init_2 ob _) F.entry_enumerate_new (own_enum_new tp its nn dd ss) ⟨at_, ?_⟩
  generalize hI : ({ cls := .type "tuple_iterator", data := .fields #[.ref tp, .int 0 0] } : Obj) = oI
  generalize hE : ({ cls := .type "enumerate", data := .fields #[.none, .bool false, .ref st.heap.objs.size, rawInt 0, .none, .none] } : Obj) = oE
  have sz : (st.heap.push oI).objs.size = st.heap.objs.size + 1 := Heap.size_push ..
  have nf : oE.isFreed = false := by subst hE; rfl
  have nI : oI.isFreed = false := by subst hI; rfl
  have gE : ((st.heap.push oI).push oE).get? (st.heap.objs.size + 1) = some oE := by
    have z := Heap.get?_push_size (st.heap.push oI) (o := oE) nf
    rwa [sz] at z
  have gI : ((st.heap.push oI).push oE).get? st.heap.objs.size = some oI := Heap.get?_push_of_some _ (Heap.get?_push_size _ nI)
  show _ ∧ _
  rw [sz]
  subst hE hI
  exact ⟨⟨_, gE, rfl⟩, h _ gE ⟨{ cls := .type "tuple_iterator", data := .fields #[.ref tp, .int 0 0] }, gI, rfl, rfl⟩ fun b o x => Heap.get?_push_of_some _ (Heap.get?_push_of_some _ x)⟩
end PySem
namespace Dn
open PySem L2 Evl PySem.Spec PyProof.Rows
/-- the tuple at a, each item in a new pair with its place -/
def IteT (K : PySem.W.Frag) (a : Addr) : It where
  go := fun i H => ∃ (xs : List V) (x : V), SqT K H a xs ∧ xs[i]? = some x
  yld := fun i H v H' => ∃ l x, v = .ref l ∧ H l = none ∧ H' = upd H l (.tup [.int (i : Nat), x]) ∧ ∀ xs, SqT K H a xs → xs[i]? = some x
  stop := fun i H => ∃ xs : List V, SqT K H a xs ∧ xs.length ≤ i
theorem turn_enT {P : Program} {w : World} {K : PySem.W.Frag} {elts : List Expr} {kk : Nat} {tpos : Pos} (a e it : Addr) :
    Turn P w K (.Tuple elts kk tpos) (IteT K a) [e, it] e (fun i h => (∃ old, IsEnum h e it ((i : Nat) : Int) old) ∧ h.IsTupleIter it a i ∧ e ≠ it) where
  mem := by simp
  obj := fun i h st b hb => by
    obtain ⟨⟨old, he⟩, ⟨o, ho, hc, hd⟩, _⟩ := st
    rcases (show b = e ∨ b = it by simpa using hb) with rfl | rfl
    · exact ⟨_, he, fun v q => nomatch q⟩
    · exact ⟨o, ho, fun v q => by rw [hd] at q; cases q⟩
  keep := fun i h h' ⟨⟨old, he⟩, hi, hne⟩ k => ⟨⟨old, k e (by simp) _ he⟩, hi.at fun o q => k it (by simp) o q, hne⟩
  item := by
    intro X hP hw hK hc i pins s σ H E I hf st hg
    subst hP hw hK
    obtain ⟨⟨old, he⟩, hit, hne⟩ := st
    obtain ⟨xs, x, hq, hx⟩ := hg
    obtain ⟨its, rv, isT, hz⟩ := I.tuple hq
    obtain ⟨u, hu, ru⟩ := rv.get hx
    have isT' : s.heap.IsTuple a its.toArray := isT
    have hil : it < s.heap.objs.size := by obtain ⟨_, q, _⟩ := hit; exact Heap.lt_size q
    have hel : e < s.heap.objs.size := Heap.lt_size he
    have ai : a ≠ it := fun z => by
      subst z
      obtain ⟨o1, q1, c1, _⟩ := isT'
      obtain ⟨o2, q2, c2, _⟩ := hit
      rw [q1] at q2; cases q2
      have z : Value.type "tuple" = Value.type "tuple_iterator" := (show _ = o1.cls from Eq.symm c1).trans c2
      injection z with z
      exact absurd z (by decide)
    have ae : e ≠ a := fun z => by
      subst z
      obtain ⟨o1, q1, c1, _⟩ := isT'
      rw [show s.heap.get? e = some _ from he] at q1; cases q1
      have z : Value.type "enumerate" = Value.type "tuple" := c1
      injection z with z
      exact absurd z (by decide)
    have lt : i < its.toArray.size := by
      have := (List.getElem?_eq_some_iff.mp hu).1
      simpa using this
    refine wpAny_pyNext_enum_itemD (Draws.tuple (A := X.A.in1) (show X.A.in1.handled = none from I.ok.hd hc) it a ai its.toArray) he ⟨hit, isT'⟩ lt hne (by simp [hne, ae]) fun y h' tk hy ho st' hT hsz hk => ?_
    have yu : y = u := by
      have z : its.toArray[i]? = some u := by simpa using hu
      rw [hy] at z; cases z; rfl
    subst yu
    refine ⟨_, rfl, wpAny_letOwnedTupleGo_enum (s := { s with heap := h', toks := tk + 1 }) ho fun h2 he2 sb => ?_⟩
    have hT2 : h2.get? s.heap.objs.size = some { cls := .type "tuple", data := .seq #[.int i tk, y] } := (sb.2 _ (Nat.ne_of_gt hel)).trans hT
    have kp : ∀ b ob, b ∉ [e, it] → s.heap.get? b = some ob → h2.get? b = some ob := fun b ob hb q => by
      have b1 : b ≠ e := fun z => hb (by simp [z])
      have b2 : b ≠ it := fun z => hb (by simp [z])
      exact (sb.2 b b1).trans (hk b ob b1 b2 q)
    have okT : ObjOk X.prog X.w (upd H s.heap.objs.size (.tup [.int (i : Nat), x])) h2 s.heap.objs.size (.tup [.int (i : Nat), x]) :=
      ⟨by show 2 ≤ sizeLine; decide, [.int i tk, y], .cons ⟨_, rfl⟩ (.cons ru .nil), ⟨_, hT2, rfl, _, rfl⟩⟩
    have I2 : Inv X pins σ (upd H s.heap.objs.size (.tup [.int (i : Nat), x])) { s with heap := h2, toks := tk + 1 } := I.turnedNew (ch := [e, it]) kp hf (Nat.le_refl _) okT
    refine ⟨.ref s.heap.objs.size, _, I2, rfl, ⟨_, x, rfl, I.hok.fresh (Nat.le_refl _), rfl, fun ys hys => by rw [I.tuple_inj hys hq]; exact hx⟩, ⟨⟨y, ?_⟩, st'.1.at fun o q => (sb.2 it (Ne.symm hne)).trans q, hne⟩, fun b hb => ?_⟩
    · have e1 : ((i + 1 : Nat) : Int) = (i : Int) + 1 := by omega
      rw [e1]; exact he2
    · have bl : b < s.heap.objs.size := by
        rcases (show b = e ∨ b = it by simpa using hb) with rfl | rfl
        · exact hel
        · exact hil
      rw [upd_ne (Nat.ne_of_lt bl)]
      exact (hf b hb).1
  done := by
    intro X hP hw hK hc i pins s σ H E I hf st hg
    subst hP hw hK
    obtain ⟨⟨old, he⟩, hit, hne⟩ := st
    obtain ⟨xs, hq, hx⟩ := hg
    obtain ⟨its, rv, isT, hz⟩ := I.tuple hq
    have isT' : s.heap.IsTuple a its.toArray := isT
    obtain ⟨f0, f1, f2, f3, f4, f5⟩ := hf it (by simp)
    have hl := rv.length
    have nx : its.toArray[i]? = none := by simp; omega
    have hT : s.TypeIs (.ref e) "enumerate" := ⟨_, he, rfl⟩
    show wpAny _ _ (pyNext (.ref e)) _ _ _
    unfold pyNext
    refine wpAny_bind (wpAny_attempt (wpAny_callSpecial?_slot (name := Str.ofString "__next__") hT F.slot_enumerate_next (wpAny_call_entry F.slot_enumerate_next hT F.entry_enumerate_next ?_ (F.args_enumerate_next_1 _))))
    show wpAny _ _ (field (.ref e) 2 >>= _) _ _ _
    refine wpAny_bind (wpAny_field he rfl (x := .ref it) rfl ?_)
    refine wpAny_bind (wpAny_nextOf_tuple_end (show X.A.in1.handled = none from I.ok.hd hc) hit isT' nx fun h' ex hs' hx' => ?_)
    obtain ⟨o, ho, hcl⟩ := hx'
    refine wpAny_bind (wpAny_isInstance (T := "StopIteration") (b := true) ⟨o, ho, hcl⟩ isSubtype_stop ?_)
    exact wpAny_pure ⟨rfl, I.turned (t' := s.toks) (fun b o hb q => hs' b o hb q) f0 f1 f3 f4 f5⟩
  self := fun A i s Q E st h => let ⟨⟨_, he⟩, _⟩ := st; wpAny_pyIter_enum he h
def iEnT0 (K : PySem.W.Frag) (ta : TA) : TI := fun σ H R => ta σ H fun vs H1 => ∃ a xs, vs = [.ref a] ∧ SqT K H1 a xs ∧ R (IteT K a) H1
theorem pi_enT {X : Cx} {e : Expr} {ta : TA} {p pos tpos : Pos} {elts : List Expr} {kk : Nat} (hg : Gl X "enumerate") (hm : X.mg "enumerate" = none) (ha : PA X [e] ta) (hs : starEach [e] X.env = [(false, eval e X.env)] := by rfl) :
    PI X (.Tuple elts kk tpos) (.Call (.Name "enumerate" p) [e] [] pos) (iEnT0 X.K ta) := by
  refine ⟨fun pins s σ H R I h => ?_⟩
  refine Call_ (ld_blt I hg hm boot_enumerate (PyProof.Rows.callWith_type1 (thn (ha.run pos pins s σ H _ I h) fun us s1 ⟨vs, H1, I1, r1, q1⟩ => ?_) hs rfl))
  obtain ⟨a, xs, ex, hq, q⟩ := q1
  subst ex
  obtain ⟨u, rfl, ru⟩ := vals1 r1
  cases ru
  obtain ⟨its, rv, isT, hz⟩ := I1.tuple hq
  refine own_enum_call (show s1.heap.IsTuple a its.toArray from isT) fun hp he hit hk => wpAny_pyIter_enum he ?_
  have I2 : Inv X pins σ H1 { s1 with heap := hp } := I1.kept (t' := s1.toks) hk
  refine ⟨s1.heap.objs.size + 1, [s1.heap.objs.size + 1, s1.heap.objs.size], _, _, H1, rfl, I2, turn_enT a (s1.heap.objs.size + 1) s1.heap.objs.size, ⟨⟨.none, he⟩, hit, Nat.succ_ne_self _⟩, fun b hb => ?_, q⟩
  have ge : s1.heap.objs.size ≤ b := by
    rcases (show b = s1.heap.objs.size + 1 ∨ b = s1.heap.objs.size by simpa using hb) with z | z <;> subst z
    · exact Nat.le_succ _
    · exact Nat.le_refl _
  exact I1.fpOk ge (I1.hok.fresh ge)
section
variable {X : Cx} {a : Expr} {fa : DE} {pos p : Pos}
def iEnT (f : DE) : DL := fun ρ Q => f ρ fun d ρ1 => match d with
  | .tuple ds => Q (enD ds) ρ1
  | _ => False
theorem ji_enumT {elts : List Expr} {kk : Nat} {tpos : Pos} (hm : X.mg "enumerate" = none) (ha : JE X a fa) (hg : Gl X "enumerate" := by rfl) (hs : starEach [a] X.env = [(false, eval a X.env)] := by rfl) : JI X (.Tuple elts kk tpos) (.Call (.Name "enumerate" p) [a] [] pos) (iEnT fa) := by
  obtain ⟨t, pt, kt⟩ := ha.ex
  refine ⟨_, pi_enT hg hm (pa_cons pt pa_nil hs) hs, fun T ρ σ H QD R r h q => kt T ρ σ H _ _ r h fun d ρ1 v H1 r1 p1 v1 h => ?_⟩
  cases v1 with
  | @tup a xs ds hp rr =>
    refine ⟨_, _, rfl, sqt_of hp, q _ _ _ _ r1 p1 ⟨fun H e => ⟨xs, ex_t e (lt_of hp), by rw [enD_len, rr.length]; exact Nat.le_refl _⟩, fun i d H hd e => ?_⟩ h⟩
    obtain ⟨g, hg, rfl⟩ := enD_get hd
    obtain ⟨u, hu, ru⟩ := rr.get hg
    refine ⟨⟨xs, u, ex_t e (lt_of hp), hu⟩, fun x H' y => ?_⟩
    obtain ⟨l, z, rfl, hl, rfl, y⟩ := y
    have := y xs (ex_t e (lt_of hp))
    rw [hu] at this; cases this
    exact ⟨Ex.new hl, fun O hO eo => rp_newT hO hl (.cons (.int _) (.cons (ru.mono eo) .nil))⟩
  | _ => exact False.elim h
end
end Dn
set_option Elab.async false
set_option linter.all false
set_option maxRecDepth 100000
set_option autoImplicit false
set_option maxHeartbeats 4000000
namespace Dn
open PySem L2 Evl PySem.Spec
section
variable {X : Cx} {a b c e : Expr} {fa fb fc : DE} {pos p : Pos} {es : List Expr} {x y : Str}
/-! ### owned lists by their content -/
def MO.getL : MO → Option (List D)
  | .lst ds => some ds
  | .par _ m => m.getL
  | _ => none
def MO.putL : MO → List D → MO
  | .par p _, ds => .par p (.lst ds)
  | _, ds => .lst ds
theorem getL_rp {K : PySem.W.Frag} {G : Hp} : ∀ {m : MO} {o : HO} {ds : List D}, RpO K G m o → m.getL = some ds → ∃ vs, o = .lst vs ∧ RpAll K G vs ds
  | .lst ds, o, es, h, e => by
    cases e
    cases o <;> first | exact False.elim h | exact ⟨_, rfl, h⟩
  | .par _ m, o, es, h, e => getL_rp (m := m) (by unfold RpO at h; exact h) e
  | .dct _, o, es, h, e => by cases e
  | .rng _, o, es, h, e => by cases e
  | .dtu _, o, es, h, e => by cases e
theorem putL_rp {K : PySem.W.Frag} {G : Hp} {m : MO} {vs : List V} {ds : List D} (h : RpAll K G vs ds) : RpO K G (m.putL ds) (.lst vs) := by
  cases m <;> first | exact h | (unfold MO.putL RpO; exact h)
theorem putL_tag {K : PySem.W.Frag} {T : Addr → Prop} {ρ : Env} {σ : L2.St} {H : Hp} {i : Nat} {m : MO} {ds : List D} {p : Addr} (r : RS K T ρ σ H) (hm : ρ[i]? = some (some (SV.ow m))) (hp : σ[i]? = some (some (V.ref p))) : ∀ q m1, m.putL ds = .par q m1 → p = q := fun q m1 h => by
  cases m with
  | par q' m' => cases h; exact r.tag i _ _ p hm hp
  | _ => cases h
/-- what stands in slot i, if it is an owned list -/
def atO (ρ : Env) (i : Nat) : Option (List D) := match ρ[i]? with
  | some (some (.ow m)) => m.getL
  | _ => none
def setO (ρ : Env) (i : Nat) (ds : List D) : Env := match ρ[i]? with
  | some (some (.ow m)) => ρ.set i (some (.ow (m.putL ds)))
  | _ => ρ
theorem atO_some {ρ : Env} {i : Nat} {ds : List D} (h : atO ρ i = some ds) : ∃ m, ρ[i]? = some (some (SV.ow m)) ∧ m.getL = some ds := by
  unfold atO at h
  split at h
  · exact ⟨_, by assumption, h⟩
  · cases h
theorem RS.atO {K : PySem.W.Frag} {T : Addr → Prop} {ρ : Env} {σ : L2.St} {H : Hp} {i : Nat} {ds : List D} (r : RS K T ρ σ H) (h : Dn.atO ρ i = some ds) : ∃ m q vs, ρ[i]? = some (some (SV.ow m)) ∧ σ[i]? = some (some (V.ref q)) ∧ H q = some (.lst vs) ∧ RpAll K (hide (Hd T ρ σ) H) vs ds := by
  obtain ⟨m, hm, hg⟩ := atO_some h
  obtain ⟨q, o, h1, h2, h3⟩ := r.ow i m hm
  obtain ⟨vs, rfl, h4⟩ := getL_rp h3 hg
  exact ⟨m, q, vs, hm, h1, h2, h4⟩
theorem RS.setO {K : PySem.W.Frag} {T : Addr → Prop} {ρ : Env} {σ : L2.St} {H : Hp} {i : Nat} {m : MO} {q : Addr} {vs : List V} {ds : List D} (r : RS K T ρ σ H) (hm : ρ[i]? = some (some (SV.ow m))) (hq : σ[i]? = some (some (V.ref q))) (h : RpAll K (hide (Hd T ρ σ) H) vs ds) :
    RS K T (Dn.setO ρ i ds) σ (upd H q (.lst vs)) ∧ Po ρ σ H (Dn.setO ρ i ds) σ (upd H q (.lst vs)) := by
  unfold Dn.setO
  rw [hm]
  exact ⟨r.write hm hq (putL_rp h) (putL_tag r hm hq), .write hm hq⟩
theorem own_same {T : Addr → Prop} {ρ : Env} {σ : L2.St} {H : Hp} {i : Nat} {m m' : MO} {q : Addr} {o : HO} (hm : ρ[i]? = some (some (SV.ow m))) (hq : σ[i]? = some (some (V.ref q))) : Ex (hide (Hd T ρ σ) H) (hide (Hd T (ρ.set i (some (SV.ow m'))) σ) (upd H q o)) := (Po.write (m' := m') (o' := o) hm hq).fz

/-- x[i], x an owned list (a parameter, too) -/
def dIxP (i : Nat) (fb : DE) : DE := fun ρ Q => (atO ρ i).isSome = true ∧ fb ρ fun y ρ1 => ∃ ds j d, atO ρ1 i = some ds ∧ y = .int j ∧ atI ds j = some d ∧ Q d ρ1
theorem je_ixP {i : Nat} {px : Pos} (hN : X.N[i]? = some x) (hv : Vis X.env.scope x) (hb : JE X b fb) (hs : PlainIx b := by exact fun _ _ => rfl) (hd : (x == ("__debug__" : Str)) = false := by decide) (hcd : (x == ("__classdict__" : Str)) = false := by decide) :
    JE X (.Subscript (.Name x px) b pos) (dIxP i fb) := by
  obtain ⟨tb, pb, kb⟩ := hb.ex
  refine ⟨_, pe_ix ix_list (pe_var hN hv hd hcd) pb hs, fun T ρ σ H QD Q r h q => ?_⟩
  obtain ⟨h0, h⟩ := h
  obtain ⟨ds0, h0⟩ := Option.isSome_iff_exists.mp h0
  obtain ⟨m, l, vs, _, hl, _, _⟩ := r.atO h0
  refine ⟨_, hl, kb T ρ σ H _ _ r h fun y ρ1 v H1 r1 p1 v1 h => ?_⟩
  obtain ⟨ds, j, d, h1, rfl, h2, h3⟩ := h
  obtain ⟨m', l', vs', _, hl', ho', hr'⟩ := r1.atO h1
  rw [hl] at hl'; cases hl'
  obtain ⟨u, h4, h5⟩ := atI_rp hr' h2
  cases v1
  exact ⟨_, _, _, _, rfl, rfl, .inl (.inl ho'), h4, q _ _ _ _ r1 p1 h5 h3⟩
/-- x[i] = e -/
def sSub (i : Nat) (fi fe : DE) : DS := fun E ρ => fe ρ fun d ρ1 => (atO ρ1 i).isSome = true ∧ fi ρ1 fun k ρ2 => ∃ ds j m, atO ρ2 i = some ds ∧ k = .int j ∧ ixN ds.length j = some m ∧ E.nx (setO ρ2 i (ds.set m d))
theorem js_sub {i : Nat} {px ps : Pos} {f1 f2 : DE} (hN : X.N[i]? = some x) (hv : Vis X.env.scope x) (hi : JE X b f1) (he : JE X e f2) (hd : (x == ("__debug__" : Str)) = false := by decide) (hcd : (x == ("__classdict__" : Str)) = false := by decide)
    (ha : ∀ v, assign (.Subscript (.Name x px) b ps) X.env v = (do
      let ov ← holding [v] (eval (.Name x px) X.env); let iv ← holding [v, ov] (eval b X.env); standAt ps; holding [v, ov, iv] (setItem ov iv v); release [v, ov, iv] []) := by intro _; rfl)
    (hs : swapsWithSole [.Subscript (.Name x px) b ps] e pos.line X.env = pure false := by rfl) (hw : swappedStores [.Subscript (.Name x px) b ps] e X.env = pure none := by rfl) (h1 : (assignEach [.Subscript (.Name x px) b ps] X.env).map (·.2) = [assign (.Subscript (.Name x px) b ps) X.env] := by rfl) :
    JS X (.Assign [.Subscript (.Name x px) b ps] e pos) (sSub i f1 f2) := by
  obtain ⟨t1, p1, k1⟩ := hi.ex
  obtain ⟨t2, p2, k2⟩ := he.ex
  refine ⟨_, ps_asg p2 (pg_sub (pe_var hN hv hd hcd) p1 set_list ha) hs hw h1, fun T ρ σ H E D r h k => k2 T ρ σ H _ _ r h fun d ρ1 v H1 r1 q1 v1 h => ?_⟩
  obtain ⟨h0, h⟩ := h
  obtain ⟨ds0, h0⟩ := Option.isSome_iff_exists.mp h0
  obtain ⟨m, l, vs, _, hl, _, _⟩ := r1.atO h0
  refine ⟨_, hl, k1 T ρ1 σ H1 _ _ r1 h fun kk ρ2 w H2 r2 q2 v2 h => ?_⟩
  obtain ⟨ds, j, n, h2, rfl, h3, h4⟩ := h
  obtain ⟨m', l', vs', hm', hl', ho', hr'⟩ := r2.atO h2
  rw [hl] at hl'; cases hl'
  cases v2
  obtain ⟨r3, q3⟩ := r2.setO hm' hl (hr'.set n (v1.mono q2.fz))
  exact ⟨l, vs', j, n, rfl, rfl, ho', by rw [hr'.length]; exact h3, k.nx _ _ _ r3 ((q1.trans q2).trans q3) h4⟩
/-- methods of an owned list, as expressions -/
def dApp (i : Nat) (f : DE) : DE := fun ρ Q => (atO ρ i).isSome = true ∧ f ρ fun d ρ1 => ∃ ds, atO ρ1 i = some ds ∧ ds.length < 16777216 ∧ Q .none (setO ρ1 i (ds ++ [d]))
theorem je_app {i : Nat} {px pa pc : Pos} (hN : X.N[i]? = some x) (hv : Vis X.env.scope x) (he : JE X e fa) (hd : (x == ("__debug__" : Str)) = false := by decide) (hcd : (x == ("__classdict__" : Str)) = false := by decide)
    (hbase : attributeBase (.Name x px) "append" X.env (eval (.Name x px) X.env) = eval (.Name x px) X.env := by rfl)
    (hfew : ((backTo pc (starEach [e] X.env)).all (fun x => !x.1) && (backToKw pc (keywordEach [] X.env)).all (fun x => x.1.isSome) && decide ([e].length + ([] : List Keyword).length + (if ([] : List Keyword).isEmpty then 0 else 1) < 30)) = true := by rfl)
    (hline : (pa.endLine == pc.line) = true := by rfl) (hs : starEach [e] X.env = (false, eval e X.env) :: starEach [] X.env := by rfl) : JE X (.Call (.Attribute (.Name x px) "append" pa) [e] [] pc) (dApp i fa) := by
  obtain ⟨t, pt, kt⟩ := he.ex
  refine ⟨_, pe_bm PySem.F.plainAttrs_list PySem.F.slot_list_append PySem.F.type_list_append mt_append (pe_var hN hv hd hcd) (pa_cons pt pa_nil hs) hbase hfew hline hs, fun T ρ σ H QD Q r h q => ?_⟩
  obtain ⟨h0, h⟩ := h
  obtain ⟨ds0, h0⟩ := Option.isSome_iff_exists.mp h0
  obtain ⟨m, l, vs, _, hl, ho, _⟩ := r.atO h0
  refine ⟨_, hl, .inl ⟨rfl, _, .inl (.inl ho)⟩, kt T ρ σ H _ _ r h fun d ρ1 v H1 r1 p1 v1 h => ?_⟩
  obtain ⟨ds, h1, hz, h2⟩ := h
  obtain ⟨m', l', vs', hm', hl', ho', hr'⟩ := r1.atO h1
  rw [hl] at hl'; cases hl'
  obtain ⟨r3, q3⟩ := r1.setO hm' hl (hr'.append (.cons v1 .nil))
  exact ⟨l, vs', v, rfl, rfl, ho', by rw [hr'.length]; exact hz, q _ _ _ _ r3 (p1.trans q3) .non h2⟩
def dExt (i : Nat) (f : DE) : DE := fun ρ Q => (atO ρ i).isSome = true ∧ f ρ fun d ρ1 => ∃ ds es, atO ρ1 i = some ds ∧ d = .list es ∧ ds.length + es.length ≤ 16777216 ∧ Q .none (setO ρ1 i (ds ++ es))
theorem je_ext {i : Nat} {px pa pc : Pos} (hN : X.N[i]? = some x) (hv : Vis X.env.scope x) (he : JE X e fa) (hd : (x == ("__debug__" : Str)) = false := by decide) (hcd : (x == ("__classdict__" : Str)) = false := by decide)
    (hbase : attributeBase (.Name x px) "extend" X.env (eval (.Name x px) X.env) = eval (.Name x px) X.env := by rfl)
    (hfew : ((backTo pc (starEach [e] X.env)).all (fun x => !x.1) && (backToKw pc (keywordEach [] X.env)).all (fun x => x.1.isSome) && decide ([e].length + ([] : List Keyword).length + (if ([] : List Keyword).isEmpty then 0 else 1) < 30)) = true := by rfl)
    (hline : (pa.endLine == pc.line) = true := by rfl) (hs : starEach [e] X.env = (false, eval e X.env) :: starEach [] X.env := by rfl) : JE X (.Call (.Attribute (.Name x px) "extend" pa) [e] [] pc) (dExt i fa) := by
  obtain ⟨t, pt, kt⟩ := he.ex
  refine ⟨_, pe_bm PySem.F.plainAttrs_list PySem.F.slot_list_extend PySem.F.type_list_extend mt_extend (pe_var hN hv hd hcd) (pa_cons pt pa_nil hs) hbase hfew hline hs, fun T ρ σ H QD Q r h q => ?_⟩
  obtain ⟨h0, h⟩ := h
  obtain ⟨ds0, h0⟩ := Option.isSome_iff_exists.mp h0
  obtain ⟨m, l, vs, _, hl, ho, _⟩ := r.atO h0
  refine ⟨_, hl, .inl ⟨rfl, _, .inl (.inl ho)⟩, kt T ρ σ H _ _ r h fun d ρ1 v H1 r1 p1 v1 h => ?_⟩
  obtain ⟨ds, es, h1, rfl, hz, h2⟩ := h
  obtain ⟨m', l', vs', hm', hl', ho', hr'⟩ := r1.atO h1
  rw [hl] at hl'; cases hl'
  cases v1 with
  | lst hp rr =>
    obtain ⟨r3, q3⟩ := r1.setO hm' hl (hr'.append rr)
    exact ⟨l, _, vs', _, rfl, rfl, ho', at_of hp, by rw [hr'.length, rr.length]; exact hz, q _ _ _ _ r3 (p1.trans q3) .non h2⟩
def dPopAt (i : Nat) (f : DE) : DE := fun ρ Q => (atO ρ i).isSome = true ∧ f ρ fun k ρ1 => ∃ ds j n d, atO ρ1 i = some ds ∧ k = .int j ∧ 0 ≤ j ∧ j < ds.length ∧ n = j.toNat ∧ ds[n]? = some d ∧ ds.length ≤ 1000000 ∧ Q d (setO ρ1 i (ds.eraseIdx n))
theorem je_popAt {i : Nat} {px pa pc : Pos} (hN : X.N[i]? = some x) (hv : Vis X.env.scope x) (he : JE X e fa) (hd : (x == ("__debug__" : Str)) = false := by decide) (hcd : (x == ("__classdict__" : Str)) = false := by decide)
    (hbase : attributeBase (.Name x px) "pop" X.env (eval (.Name x px) X.env) = eval (.Name x px) X.env := by rfl)
    (hfew : ((backTo pc (starEach [e] X.env)).all (fun x => !x.1) && (backToKw pc (keywordEach [] X.env)).all (fun x => x.1.isSome) && decide ([e].length + ([] : List Keyword).length + (if ([] : List Keyword).isEmpty then 0 else 1) < 30)) = true := by rfl)
    (hline : (pa.endLine == pc.line) = true := by rfl) (hs : starEach [e] X.env = (false, eval e X.env) :: starEach [] X.env := by rfl) : JE X (.Call (.Attribute (.Name x px) "pop" pa) [e] [] pc) (dPopAt i fa) := by
  obtain ⟨t, pt, kt⟩ := he.ex
  refine ⟨_, pe_bm PySem.F.plainAttrs_list PySem.F.slot_list_pop PySem.F.type_list_pop mt_popAt (pe_var hN hv hd hcd) (pa_cons pt pa_nil hs) hbase hfew hline hs, fun T ρ σ H QD Q r h q => ?_⟩
  obtain ⟨h0, h⟩ := h
  obtain ⟨ds0, h0⟩ := Option.isSome_iff_exists.mp h0
  obtain ⟨m, l, vs, _, hl, ho, _⟩ := r.atO h0
  refine ⟨_, hl, .inl ⟨rfl, _, .inl (.inl ho)⟩, kt T ρ σ H _ _ r h fun d ρ1 v H1 r1 p1 v1 h => ?_⟩
  obtain ⟨ds, j, n, z, h1, rfl, j0, jl, hn, hz, hlen, h2⟩ := h
  obtain ⟨m', l', vs', hm', hl', ho', hr'⟩ := r1.atO h1
  rw [hl] at hl'; cases hl'
  cases v1
  obtain ⟨u, hu, ru⟩ := hr'.get hz
  obtain ⟨r3, q3⟩ := r1.setO hm' hl (hr'.erase n)
  have ix : seqIndex? j vs'.length = some n := by
    have hx : ixN vs'.length j = some n := by
      unfold ixN
      rw [if_pos j0, if_pos (by rw [hr'.length]; exact jl), hn]
    exact (ixN_seq hx).1
  exact ⟨l, vs', j, n, u, rfl, rfl, ho', by omega, by omega, ix, hu, q _ _ _ _ r3 (p1.trans q3) (ru.mono q3.fz) h2⟩
/-- an owned list's name as a value: from there on it stands as it is -/
def dVarF (i : Nat) : DE := fun ρ Q => match ρ[i]? with
  | some (some (.ow (.lst ds))) => Q (.list ds) (ρ.set i (some (.im (.list ds))))
  | _ => False
theorem je_varF {i : Nat} (hN : X.N[i]? = some x) (hv : Vis X.env.scope x) (hd : (x == ("__debug__" : Str)) = false := by decide) (hcd : (x == ("__classdict__" : Str)) = false := by decide) : JE X (.Name x pos) (dVarF i) := by
  refine ⟨_, pe_var hN hv hd hcd, fun T ρ σ H QD Q r h q => ?_⟩
  unfold dVarF at h
  split at h
  · rename_i ds e1
    have rf := r.freeze e1
    obtain ⟨v, hv, rv⟩ := rf.im i (.list ds) (List.getElem?_set_self (List.getElem?_eq_some_iff.mp e1).1)
    exact ⟨v, hv, q _ _ _ _ rf .freeze rv h⟩
  · exact False.elim h

/-! ### in, not in; {}; repr of truth values -/
def dIn (neg : Bool) : D → D → (D → Prop) → Prop := fun x y Q => ∃ ds, seqD y = some ds ∧ isSc x = true ∧ ds.all isSc = true ∧ Q (.bool (if neg then !(ds.any fun z => PyData.eqv z x) else ds.any fun z => PyData.eqv z x))
theorem flat_sc {K : PySem.W.Frag} {G : Hp} {v : V} {d : D} (r : Rp K G v d) (h : isSc d = true) : flatV v = true := by cases r <;> first | rfl | (simp [isSc] at h; done)
theorem flat_all {K : PySem.W.Frag} {G : Hp} : ∀ {vs : List V} {ds : List D}, RpAll K G vs ds → ds.all isSc = true → vs.all flatV = true
  | _, _, .nil, _ => rfl
  | _, _, .cons h r, c => by
    rw [List.all_cons, Bool.and_eq_true] at c ⊢
    exact ⟨flat_sc h c.1, flat_all r c.2⟩
theorem eqV_rp {K : PySem.W.Frag} {G G' : Hp} {v u : V} {d e : D} (r : Rp K G v d) (s : Rp K G' u e) (h1 : isSc d = true) (h2 : isSc e = true) : eqV v u = PyData.eqv d e := by
  cases r <;> first | (simp [isSc] at h1; done) | skip
  all_goals cases s <;> first | (simp [isSc] at h2; done) | simp [eqV, PyData.eqv]
theorem inV_rp {K : PySem.W.Frag} {G G' : Hp} {x : V} {d : D} (s : Rp K G' x d) (h1 : isSc d = true) : ∀ {vs : List V} {ds : List D}, RpAll K G vs ds → ds.all isSc = true → inV x vs = ds.any fun z => PyData.eqv z d
  | _, _, .nil, _ => rfl
  | _, _, .cons h r, c => by
    rw [List.all_cons, Bool.and_eq_true] at c
    show (eqV _ _ || inV _ _) = (_ || _)
    rw [eqV_rp h s c.1 h1, inV_rp s h1 r c.2]
theorem opd_in : OpD X (compareOp .In) (dIn false) := by
  refine ⟨_, op_in_seq, fun O H x y d e QD Q hO rx ry h k => ?_⟩
  obtain ⟨ds, h1, h2, h3, h4⟩ := h
  obtain ⟨q, xs, rfl, hs, rr⟩ := seq_rp ry h1
  exact ⟨_, _, rfl, hs, flat_sc rx h2, flat_all rr h3, k _ _ H (.refl H) (.bl _) (by rw [inV_rp rx h2 rr h3]; exact h4)⟩
theorem opd_notin : OpD X (compareOp .NotIn) (dIn true) := by
  refine ⟨_, op_notIn_seq, fun O H x y d e QD Q hO rx ry h k => ?_⟩
  obtain ⟨ds, h1, h2, h3, h4⟩ := h
  obtain ⟨q, xs, rfl, hs, rr⟩ := seq_rp ry h1
  exact ⟨_, _, rfl, hs, flat_sc rx h2, flat_all rr h3, k _ _ H (.refl H) (.bl _) (by rw [inV_rp rx h2 rr h3]; exact h4)⟩
theorem je_dict0 : JE X (.Dict [] [] pos) (dC (.dict [])) := by
  refine ⟨_, pe_dnewK, fun T ρ σ H QD Q r h q => ?_⟩
  intro l hl
  exact q _ _ _ _ (r.grow (Ex.new hl)) (.grow (Ex.new hl)) (.dct (hide_new (fun a => r.hdDom) hl) .nil rfl) h
def dRepB : List D → (D → Prop) → Prop
  | [.bool b] => fun Q => Q (.str (if b then "True" else "False"))
  | _ => fun _ => False
theorem calld_reprB : CallD X (.builtin "repr") dRepB := by
  refine ⟨fun xs H Q => ∃ b, xs = [V.bl b] ∧ Q (.str (if b then "True" else "False")) H, fun pins s σ H xs us Q I r h => ?_, fun O H vs ds QD Q hO r h k => ?_⟩
  · obtain ⟨b, rfl, q⟩ := h
    obtain ⟨u, rfl, ru⟩ := vals1 r
    cases ru
    exact PySem.P.repr_of_bool ⟨.str _, H, I.tok _, ⟨_, rfl⟩, q⟩
  · unfold dRepB at h
    split at h
    · obtain ⟨v, rfl, w⟩ := rp1 r
      cases w
      exact ⟨_, rfl, k _ _ H (.refl H) (.str _) h⟩
    · exact False.elim h
end
end Dn
set_option Elab.async false
set_option linter.all false
set_option maxRecDepth 100000
set_option autoImplicit false
set_option maxHeartbeats 4000000
namespace Dn
open PySem L2 Evl PySem.Spec PyProof.Rows
/-! ### what a def promises -/
/-- a def that changes nothing: S of the arguments' data and of what is wanted of the result -/
def spD (K : PySem.W.Frag) (n : Nat) (S : List D → (D → Prop) → Prop) : Sp := fun vs H Q _ => vs.length = n ∧ ∃ (T : Addr → Prop) (ds : List D) (QD : D → Prop), (∀ a, T a → Lv H a) ∧ RpAll K (hide T H) vs ds ∧ S ds QD ∧
  ∀ v d H', QD d → Ex H H' → Rp K (hide T H') v d → Q v H'
/-- a def that changes the list handed in first -/
def spM (K : PySem.W.Frag) (n : Nat) (S : List D → List D → (D → List D → Prop) → Prop) : Sp := fun vs H Q _ => vs.length = n ∧ ∃ (T : Addr → Prop) (l : Addr) (us : List V) (ws : List V) (ms : List D) (ds : List D) (QD : D → List D → Prop),
  vs = .ref l :: us ∧ (∀ a, T a → Lv H a) ∧ ¬ T l ∧ H l = some (.lst ws) ∧ RpAll K (hide (plus T l) H) ws ms ∧ RpAll K (hide (plus T l) H) us ds ∧ S ms ds QD ∧
  ∀ v d ms' ws' H', QD d ms' → (∀ a o, a ≠ l → H a = some o → H' a = some o) → H' l = some (.lst ws') → RpAll K (hide (plus T l) H') ws' ms' → Rp K (hide (plus T l) H') v d → Q v H'
section
variable {X : Cx} {a b c e : Expr} {fa fb fc : DE} {pos p : Pos} {es : List Expr} {x y : Str} {k : Nat} {f : Addr} {fd : FuncData} {ps : List Str} {n : Nat}
def dCallF (n : Nat) (S : List D → (D → Prop) → Prop) (g : DA) : DE := fun ρ Q => g ρ fun ds ρ1 => ds.length = n ∧ S ds fun z => Q z ρ1
theorem spD_of {K : PySem.W.Frag} {T : Addr → Prop} {ρ0 ρ : Env} {σ : L2.St} {H0 H : Hp} {vs : List V} {ds : List D} {S : List D → (D → Prop) → Prop} {QD : D → Env → Prop} {Q : VK} {E : XK} (r : RS K T ρ σ H) (q : Po ρ0 σ H0 ρ σ H) (rv : RpAll K (hide (Hd T ρ σ) H) vs ds) (hn : ds.length = n) (h : S ds fun z => QD z ρ)
    (k : ∀ d ρ' v H', RS K T ρ' σ H' → Po ρ0 σ H0 ρ' σ H' → Rp K (hide (Hd T ρ' σ) H') v d → QD d ρ' → Q v H') : spD K n S vs H Q E :=
  ⟨by rw [rv.length, hn], Hd T ρ σ, ds, _, fun a => r.hdLv, rv, h, fun v d H' hq e r2 => k d ρ v H' (r.grow e) (q.trans (.grow e)) r2 hq⟩
theorem je_call {S : List D → (D → Prop) → Prop} {g : DA} (F : FnOk X.prog X.w X.K X.mg X.base L2.CX0 k f fd ps (spD X.K n S)) (hr : Room k X.A) (hm : X.mg x = some (.ref f)) (hk : PySem.W.keepIn X.K (.ref f) = true) (hb : Binds X.K fd ps []) (ha : JA X (e :: es) g) (hg : Gl X x := by rfl)
    (hdb : (x == ("__debug__" : Str)) = false := by decide) (he : starEach (e :: es) X.env = (false, eval e X.env) :: starEach es X.env := by rfl) (hpl : (backTo pos (starEach es X.env)).any (·.1) = false := by rfl) : JE X (.Call (.Name x p) (e :: es) [] pos) (dCallF n S g) := by
  obtain ⟨t, pa, ka⟩ := ha.ex
  refine ⟨_, pe_call F hr hg hm hk hb .nil (E := fun _ _ _ => False) (fun _ _ _ _ _ _ _ h => h.elim) pa hdb he hpl, fun T ρ σ H QD Q r h q => ka T ρ σ H _ _ r h fun ds ρ1 vs H1 r1 p1 v1 h => ?_⟩
  rw [List.append_nil]
  exact spD_of r1 p1 v1 h.1 h.2 q
theorem je_call0 {S : List D → (D → Prop) → Prop} (F : FnOk X.prog X.w X.K X.mg X.base L2.CX0 k f fd ps (spD X.K n S)) (hr : Room k X.A) (hm : X.mg x = some (.ref f)) (hk : PySem.W.keepIn X.K (.ref f) = true) (hb : Binds X.K fd ps []) (hg : Gl X x := by rfl)
    (hdb : (x == ("__debug__" : Str)) = false := by decide) : JE X (.Call (.Name x p) [] [] pos) (dCallF n S aNil) := by
  refine ⟨_, pe_call0 F hr hg hm hk hb .nil (E := fun _ _ _ => False) (fun _ _ _ _ _ _ _ h => h.elim) hdb, fun T ρ σ H QD Q r h q => ?_⟩
  exact spD_of (E := fun _ _ _ => False) r .refl .nil h.1 h.2 q
def dCallM (i n : Nat) (S : List D → List D → (D → List D → Prop) → Prop) (g : DA) : DE := fun ρ Q => (atO ρ i).isSome = true ∧ g ρ fun ds ρ1 => ds.length + 1 = n ∧ ∃ ms, atO ρ1 i = some ms ∧ S ms ds fun d ms' => Q d (setO ρ1 i ms')
theorem plus_hd {T : Addr → Prop} {ρ : Env} {σ : L2.St} {l a : Addr} {i : Nat} {m : MO} (hm : ρ[i]? = some (some (SV.ow m))) (hl : σ[i]? = some (some (V.ref l))) (h : plus (fun a => Hd T ρ σ a ∧ a ≠ l) l a) : Hd T ρ σ a := by
  rcases h with h | h
  · subst h; exact .inr ⟨i, m, hm, hl⟩
  · exact h.1
theorem hd_plus {T : Addr → Prop} {ρ : Env} {σ : L2.St} {l a : Addr} (h : Hd T ρ σ a) : plus (fun a => Hd T ρ σ a ∧ a ≠ l) l a := by
  by_cases e : a = l
  · exact .inl e
  · exact .inr ⟨h, e⟩
theorem je_callM {i : Nat} {px : Pos} {S : List D → List D → (D → List D → Prop) → Prop} {g : DA} (F : FnOk X.prog X.w X.K X.mg X.base L2.CX0 k f fd ps (spM X.K n S)) (hr : Room k X.A) (hm : X.mg x = some (.ref f)) (hk : PySem.W.keepIn X.K (.ref f) = true) (hb : Binds X.K fd ps [])
    (hN : X.N[i]? = some y) (hv : Vis X.env.scope y) (ha : JA X es g) (hg : Gl X x := by rfl) (hd : (y == ("__debug__" : Str)) = false := by decide) (hcd : (y == ("__classdict__" : Str)) = false := by decide)
    (hdb : (x == ("__debug__" : Str)) = false := by decide) (he : starEach (Expr.Name y px :: es) X.env = (false, eval (Expr.Name y px) X.env) :: starEach es X.env := by rfl) (hpl : (backTo pos (starEach es X.env)).any (·.1) = false := by rfl) : JE X (.Call (.Name x p) (.Name y px :: es) [] pos) (dCallM i n S g) := by
  obtain ⟨t, pa, ka⟩ := ha.ex
  refine ⟨_, pe_call F hr hg hm hk hb .nil (E := fun _ _ _ => False) (fun _ _ _ _ _ _ _ h => h.elim) (pa_cons (pe_var hN hv hd hcd) pa he) hdb he hpl, fun T ρ σ H QD Q r h q => ?_⟩
  obtain ⟨h0, h⟩ := h
  obtain ⟨ds0, h0⟩ := Option.isSome_iff_exists.mp h0
  obtain ⟨m, l, vs, _, hl, _, _⟩ := r.atO h0
  refine ⟨_, hl, ka T ρ σ H _ _ r h fun ds ρ1 us H1 r1 p1 v1 h => ?_⟩
  obtain ⟨hn, ms, h1, h⟩ := h
  obtain ⟨m', l', ws, hm', hl', ho', hr'⟩ := r1.atO h1
  rw [hl] at hl'; cases hl'
  rw [List.append_nil]
  have e1 : Ex (hide (Hd T ρ1 σ) H1) (hide (plus (fun a => Hd T ρ1 σ a ∧ a ≠ l) l) H1) := hide_sub fun a w => plus_hd hm' hl w
  refine ⟨by simp [v1.length, hn], fun a => Hd T ρ1 σ a ∧ a ≠ l, l, us, ws, ms, ds, _, rfl, fun a w => r1.hdLv w.1, fun w => w.2 rfl, ho', hr'.mono e1, v1.mono e1, h, fun v d ms' ws' H' hq kp hl2 rm rv => ?_⟩
  -- the heap behind the call, as if the list had been written at once
  have e2 : Ex (hide (plus (fun a => Hd T ρ1 σ a ∧ a ≠ l) l) H') (hide (Hd T ρ1 σ) (upd H' l (.lst ws'))) := fun a o w => by
    obtain ⟨w1, w2⟩ := hide_some.1 w
    exact hide_some.2 ⟨fun z => w1 (hd_plus z), by rw [upd_ne (fun z => w1 (.inl z))]; exact w2⟩
  have back : upd H' l (.lst ws') = H' := by
    funext a
    by_cases z : a = l
    · subst z; rw [upd_same, hl2]
    · rw [upd_ne z]
  -- first the rest of the heap grows, then the list is written
  let Hm : Hp := fun a => if a = l then some (.lst ws) else H' a
  have eM : Ex H1 Hm := fun a o w => by
    show (if a = l then _ else _) = _
    by_cases z : a = l
    · subst z; rw [if_pos rfl, ← ho', w]
    · rw [if_neg z]; exact kp a o z w
  have rM := r1.grow eM
  have uM : upd Hm l (.lst ws') = H' := by
    funext a
    by_cases z : a = l
    · subst z; rw [upd_same, hl2]
    · rw [upd_ne z]; show (if a = l then _ else _) = _; rw [if_neg z]
  have e3 : Ex (hide (plus (fun a => Hd T ρ1 σ a ∧ a ≠ l) l) H') (hide (Hd T ρ1 σ) Hm) := fun a o w => by
    obtain ⟨w1, w2⟩ := hide_some.1 w
    refine hide_some.2 ⟨fun z => w1 (hd_plus z), ?_⟩
    show (if a = l then _ else _) = _
    rw [if_neg (fun z => w1 (.inl z))]; exact w2
  obtain ⟨r3, q3⟩ := rM.setO hm' hl (rm.mono e3)
  rw [uM] at r3 q3
  have pM : Po ρ σ H ρ1 σ Hm := p1.trans (.grow eM)
  exact q d _ v H' r3 (pM.trans q3) ((rv.mono e3).mono q3.fz) hq

/-! ### a def keeps its promise -/
def envD (ds : List D) (m : Nat) : Env := ds.map (fun d => some (SV.im d)) ++ List.replicate m none
theorem envD_get {ds : List D} {m i : Nat} {sv : SV} (h : (envD ds m)[i]? = some (some sv)) : ∃ d, ds[i]? = some d ∧ sv = .im d := by
  unfold envD at h
  rw [List.getElem?_append] at h
  split at h
  · rw [List.getElem?_map] at h
    obtain ⟨d, h1, h2⟩ := Option.map_eq_some_iff.mp h
    cases h2
    exact ⟨d, h1, rfl⟩
  · rw [List.getElem?_replicate] at h
    split at h <;> cases h
theorem envD_len {ds : List D} {m : Nat} : (envD ds m).length = ds.length + m := by unfold envD; simp
theorem start_get {N : List Str} {vs : List V} {i : Nat} {v : V} (h : vs[i]? = some v) : (L2.start N vs)[i]? = some (some v) := by
  unfold L2.start
  have hi := (List.getElem?_eq_some_iff.mp h).1
  rw [List.getElem?_append_left (by simp; exact hi), List.getElem?_map, h]
  rfl
theorem fn_D {P : Program} {w : World} {K : PySem.W.Frag} {mg : Str → Option Value} {base : Heap} {name qual : Str} {params : Arguments} {body : List Stmt} {scope : Scope} {N : List Str} {S : List D → (D → Prop) → Prop} {g : DS} (F : FunD K name qual params body scope [] [] f fd) (Sc : FnScope N ps scope)
    (hb : ∀ (cdv : Value) (A : Around) (outer : List PySem.Env) (s : Shared) (H : Hp) (E : XK), Room k (A.deeper (envOfC qual scope s.heap.objs.size f cdv)) → JSs (cxOf L2.CX0 P w K mg base N qual scope f cdv A outer s H E).nox body g)
    (hS : ∀ (ds : List D) (Q : D → Prop), ds.length = ps.length → S ds Q → g { nx := fun _ => Q .none, rt := fun d _ => Q d } (envD ds (N.length - ps.length))) : FnOk P w K mg base L2.CX0 (k + 1) f fd ps (spD K ps.length S) := by
  refine F.ok Sc (fun vs H Q E h => h.1) (fun cdv A outer s H vs Q E hr h => ?_)
  obtain ⟨t, pt, kt⟩ := (hb cdv A outer s H E hr).ex
  refine ⟨t, PSs.nox pt, ?_⟩
  obtain ⟨hl, T, ds, QD, hT, rv, hs, hq⟩ := h
  have hl2 : ds.length = ps.length := by rw [← rv.length, hl]
  have no : ∀ a, ¬ Own (envD ds (N.length - ps.length)) (L2.start N vs) a := fun a ⟨i, m, h1, _⟩ => by
    obtain ⟨d, _, z⟩ := envD_get h1
    cases z
  have e0 : Ex (hide T H) (hide (Hd T (envD ds (N.length - ps.length)) (L2.start N vs)) H) := hide_sub fun a w => w.elim id fun w => (no a w).elim
  have r0 : RS K T (envD ds (N.length - ps.length)) (L2.start N vs) H := by
    refine ⟨?_, fun i d h => ?_, fun i m h => ?_, fun i j m m' a h1 _ _ _ => ?_, fun a _ => no a, hT, fun i q m a h1 _ => ?_⟩
    · rw [envD_len]; unfold L2.start; simp [hl, hl2]
    · obtain ⟨d', h1, z⟩ := envD_get h
      cases z
      obtain ⟨v, h2, h3⟩ := rv.get h1
      exact ⟨v, start_get h2, h3.mono e0⟩
    · obtain ⟨d, _, z⟩ := envD_get h; cases z
    · obtain ⟨d, _, z⟩ := envD_get h1; cases z
    · obtain ⟨d, _, z⟩ := envD_get h1; cases z
  have kp : ∀ {ρ' : Env} {σ' : L2.St} {H' : Hp}, Po (envD ds (N.length - ps.length)) (L2.start N vs) H ρ' σ' H' → Ex H H' := fun q a o h => q.keep a o (no a) h
  refine kt T _ _ H _ _ r0 (hS ds QD hl2 hs) ⟨fun ρ' σ' H' r q h => hq .non .none H' h (kp q) .non, fun d ρ' σ' v H' r q rv h => hq v d H' h (kp q) (rv.mono (hide_sub fun a w => .inl w)), fun _ _ _ _ _ h => h.elim, fun _ _ _ _ _ h => h.elim⟩
theorem fn_M {P : Program} {w : World} {K : PySem.W.Frag} {mg : Str → Option Value} {base : Heap} {name qual : Str} {params : Arguments} {body : List Stmt} {scope : Scope} {N : List Str} {S : List D → List D → (D → List D → Prop) → Prop} {g : DS} (F : FunD K name qual params body scope [] [] f fd) (Sc : FnScope N ps scope)
    (hb : ∀ (cdv : Value) (A : Around) (outer : List PySem.Env) (s : Shared) (H : Hp) (E : XK), Room k (A.deeper (envOfC qual scope s.heap.objs.size f cdv)) → JSs (cxOf L2.CX0 P w K mg base N qual scope f cdv A outer s H E).nox body g)
    (hS : ∀ (l : Addr) (ms ds : List D) (Q : D → List D → Prop), ds.length + 1 = ps.length → S ms ds Q → g { nx := fun ρ => ∃ ms', ρ[0]? = some (some (.ow (.par l (.lst ms')))) ∧ Q .none ms', rt := fun d ρ => ∃ ms', ρ[0]? = some (some (.ow (.par l (.lst ms')))) ∧ Q d ms' } (some (.ow (.par l (.lst ms))) :: envD ds (N.length - ps.length))) :
    FnOk P w K mg base L2.CX0 (k + 1) f fd ps (spM K ps.length S) := by
  refine F.ok Sc (fun vs H Q E h => h.1) (fun cdv A outer s H vs Q E hr h => ?_)
  obtain ⟨t, pt, kt⟩ := (hb cdv A outer s H E hr).ex
  refine ⟨t, PSs.nox pt, ?_⟩
  obtain ⟨hl, T, l, us, ws, ms, ds, QD, rfl, hT, nT, ho, rm, rv, hs, hq⟩ := h
  have hl1 : us.length + 1 = ps.length := by simpa using hl
  have hl2 : ds.length + 1 = ps.length := by rw [← rv.length, hl1]
  generalize hρ : (some (SV.ow (.par l (.lst ms))) :: envD ds (N.length - ps.length) : Env) = ρ0
  have g0 : ∀ (i : Nat) (sv : SV), ρ0[i]? = some (some sv) → (i = 0 ∧ sv = .ow (.par l (.lst ms))) ∨ ∃ j d, i = j + 1 ∧ ds[j]? = some d ∧ sv = .im d := fun i sv h => by
    subst hρ
    cases i with
    | zero => simp at h; exact .inl ⟨rfl, h.symm⟩
    | succ j =>
      obtain ⟨d, h1, h2⟩ := envD_get (show (envD ds (N.length - ps.length))[j]? = _ by simpa using h)
      exact .inr ⟨j, d, rfl, h1, h2⟩
  have s0 : (L2.start N (.ref l :: us))[0]? = some (some (V.ref l)) := start_get rfl
  have own : ∀ a, Own ρ0 (L2.start N (.ref l :: us)) a → a = l := fun a ⟨i, m, h1, h2⟩ => by
    rcases g0 i _ h1 with ⟨rfl, _⟩ | ⟨_, _, _, _, z⟩
    · rw [s0] at h2; cases h2; rfl
    · cases z
  have e0 : Ex (hide (plus T l) H) (hide (Hd T ρ0 (L2.start N (.ref l :: us))) H) := hide_sub fun a w => w.elim .inr fun w => .inl (own a w)
  have r0 : RS K T ρ0 (L2.start N (.ref l :: us)) H := by
    refine ⟨?_, fun i d h => ?_, fun i m h => ?_, fun i j m m' a h1 h2 _ _ => ?_, fun a t w => ?_, hT, fun i q m a h1 h2 => ?_⟩
    · rw [← hρ]; unfold L2.start; simp [envD_len, ← hl2, rv.length]
    · rcases g0 i _ h with ⟨_, z⟩ | ⟨j, d', rfl, h1, z⟩
      · cases z
      · cases z
        obtain ⟨v, h2, h3⟩ := rv.get h1
        exact ⟨v, start_get (by simpa using h2), h3.mono e0⟩
    · rcases g0 i _ h with ⟨rfl, z⟩ | ⟨_, _, _, _, z⟩
      · cases z
        exact ⟨l, _, s0, ho, by unfold RpO; exact RpAll.mono e0 rm⟩
      · cases z
    · rcases g0 i _ h1 with ⟨rfl, _⟩ | ⟨_, _, _, _, z⟩
      · rcases g0 j _ h2 with ⟨rfl, _⟩ | ⟨_, _, _, _, z⟩
        · rfl
        · cases z
      · cases z
    · rw [own a w] at t; exact nT t
    · rcases g0 i _ h1 with ⟨rfl, z⟩ | ⟨_, _, _, _, z⟩
      · cases z; rw [s0] at h2; cases h2; rfl
      · cases z
  have kp : ∀ {ρ' : Env} {σ' : L2.St} {H' : Hp}, Po ρ0 (L2.start N (.ref l :: us)) H ρ' σ' H' → ∀ a o, a ≠ l → H a = some o → H' a = some o := fun q a o ne h => q.keep a o (fun w => ne (own a w)) h
  have fin : ∀ {ρ' : Env} {σ' : L2.St} {H' : Hp} {ms' : List D}, RS K T ρ' σ' H' → ρ'[0]? = some (some (SV.ow (.par l (.lst ms')))) → ∃ ws', H' l = some (.lst ws') ∧ RpAll K (hide (plus T l) H') ws' ms' ∧ Ex (hide (Hd T ρ' σ') H') (hide (plus T l) H') := fun {ρ' σ' H' ms'} r h => by
    obtain ⟨a, o, h1, h2, h3⟩ := r.ow 0 _ h
    obtain rfl := r.tag 0 _ _ a h h1
    obtain ⟨ws', rfl, h4⟩ := getL_rp (ds := ms') h3 rfl
    have e : Ex (hide (Hd T ρ' σ') H') (hide (plus T a) H') := hide_sub fun b w => w.elim (fun z => .inr ⟨0, _, h, by rw [z]; exact h1⟩) .inl
    exact ⟨ws', h2, h4.mono e, e⟩
  rw [← hρ] at *
  refine kt T _ _ H _ _ r0 (hS l ms ds QD hl2 hs) ⟨fun ρ' σ' H' r q h => ?_, fun d ρ' σ' v H' r q rv h => ?_, fun _ _ _ _ _ h => h.elim, fun _ _ _ _ _ h => h.elim⟩
  · obtain ⟨ms', h1, h2⟩ := h
    obtain ⟨ws', a1, a2, _⟩ := fin r h1
    exact hq .non .none ms' ws' H' h2 (kp q) a1 a2 .non
  · obtain ⟨ms', h1, h2⟩ := h
    obtain ⟨ws', a1, a2, a3⟩ := fin r h1
    exact hq v d ms' ws' H' h2 (kp q) a1 a2 (rv.mono a3)
end
end Dn
set_option Elab.async false
set_option linter.all false
set_option maxRecDepth 100000
set_option autoImplicit false
set_option maxHeartbeats 4000000
namespace Dn
open PySem L2 Evl PySem.Spec PyProof.Rows
section
variable {X : Cx} {a b c e : Expr} {fa fb fc : DE} {pos p : Pos} {es : List Expr} {x y : Str} {k : Nat} {f : Addr} {fd : FuncData} {ps : List Str} {n : Nat}
/-! ### walks over a list or a tuple, whichever it is -/
def iSq0 (K : PySem.W.Frag) (tl : TE) : TI := fun σ H R => tl σ H fun x H1 => ∃ a, x = .ref a ∧ (((∃ xs, SqL K H1 a xs) ∧ R (Itl K a) H1) ∨ ((∃ xs, SqT K H1 a xs) ∧ R (Itt K a) H1))
theorem pi_sq {tg l : Expr} {tl : TE} (hl : PE X l tl) : PI X tg l (iSq0 X.K tl) := by
  refine ⟨fun pins s σ H R I h => ?_⟩
  refine thn (hl.run pins s σ H _ I h) fun v s1 ⟨x, H1, I1, r1, q1⟩ => ?_
  obtain ⟨q, rfl, h⟩ := q1
  cases r1
  have fp : ∀ (o : Obj), ∀ bb ∈ [s1.heap.objs.size], FpOk X pins H1 bb := fun o bb hb => by
    have : bb = s1.heap.objs.size := by simpa using hb
    subst this
    exact I1.fpOk (Nat.le_refl _) (I1.hok.fresh (Nat.le_refl _))
  rcases h with ⟨⟨xs, hq⟩, h⟩ | ⟨⟨xs, hq⟩, h⟩
  · obtain ⟨its, rv, isL, hz⟩ := I1.list hq
    refine wpAny_pyIter_list isL.isList ?_
    exact ⟨s1.heap.objs.size, [s1.heap.objs.size], _, _, H1, rfl, I1.kept (t' := s1.toks) fun b o e => Heap.get?_push_of_some _ e, turn_list q _, ⟨_, Heap.get?_push_size _ rfl, rfl, rfl⟩, fp default, h⟩
  · obtain ⟨its, rv, isT, hz⟩ := I1.tuple hq
    refine wpAny_pyIter_tuple (show s1.heap.IsTuple q its.toArray from isT) ?_
    exact ⟨s1.heap.objs.size, [s1.heap.objs.size], _, _, H1, rfl, I1.kept (t' := s1.toks) fun b o e => Heap.get?_push_of_some _ e, turn_tuple q _, ⟨_, Heap.get?_push_size _ rfl, rfl, rfl⟩, fp default, h⟩
def iSq (f : DE) : DL := fun ρ Q => f ρ fun d ρ1 => ∃ ds, seqD d = some ds ∧ Q ds ρ1
theorem ji_sq {tg : Expr} (ha : JE X a fa) : JI X tg a (iSq fa) := by
  obtain ⟨t, pt, kt⟩ := ha.ex
  refine ⟨_, pi_sq pt, fun T ρ σ H QD R r h q => kt T ρ σ H _ _ r h fun d ρ1 v H1 r1 p1 v1 h => ?_⟩
  obtain ⟨ds, e, h⟩ := h
  cases v1
  case dct h1 h2 h3 => rw [h3, seq_dk] at e; cases e
  all_goals simp only [seqD, Option.some.injEq, reduceCtorEq] at e
  · subst e
    rename_i hp rr
    exact ⟨_, rfl, .inl ⟨⟨_, .inl (.inl (at_of hp))⟩, q _ _ _ _ r1 p1 (it_list (.inl (.inl hp)) rr) h⟩⟩
  · subst e
    rename_i hp rr
    exact ⟨_, rfl, .inr ⟨⟨_, sqt_of hp⟩, q _ _ _ _ r1 p1 (it_tup (lt_of hp) rr) h⟩⟩
  · subst e
    rename_i hp rr
    exact ⟨_, rfl, .inl ⟨⟨_, sql_of hp⟩, q _ _ _ _ r1 p1 (it_list hp rr) h⟩⟩
/-- a def that hands back a new list -/
def spL (K : PySem.W.Frag) (n : Nat) (S : List D → (List D → Prop) → Prop) : Sp := fun vs H Q _ => vs.length = n ∧ ∃ (T : Addr → Prop) (ds : List D) (QD : List D → Prop), (∀ a, T a → Lv H a) ∧ RpAll K (hide T H) vs ds ∧ S ds QD ∧
  ∀ l us es H', H l = none → H' l = some (.lst us) → QD es → Ex H H' → RpAll K (hide (plus T l) H') us es → Q (.ref l) H'
def lCall (n : Nat) (S : List D → (List D → Prop) → Prop) (g : DA) : DL := fun ρ Q => g ρ fun ds ρ1 => ds.length = n ∧ S ds fun es => Q es ρ1
theorem jl_call {S : List D → (List D → Prop) → Prop} {g : DA} (F : FnOk X.prog X.w X.K X.mg X.base L2.CX0 k f fd ps (spL X.K n S)) (hr : Room k X.A) (hm : X.mg x = some (.ref f)) (hk : PySem.W.keepIn X.K (.ref f) = true) (hb : Binds X.K fd ps []) (ha : JA X (e :: es) g) (hg : Gl X x := by rfl)
    (hdb : (x == ("__debug__" : Str)) = false := by decide) (he : starEach (e :: es) X.env = (false, eval e X.env) :: starEach es X.env := by rfl) (hpl : (backTo pos (starEach es X.env)).any (·.1) = false := by rfl) : JL X (.Call (.Name x p) (e :: es) [] pos) (lCall n S g) := by
  obtain ⟨t, pa, ka⟩ := ha.ex
  refine ⟨_, pe_call F hr hg hm hk hb .nil (E := fun _ _ _ => False) (fun _ _ _ _ _ _ _ h => h.elim) pa hdb he hpl, fun T ρ σ H QD Q r h q => ka T ρ σ H _ _ r h fun ds ρ1 vs H1 r1 p1 v1 h => ?_⟩
  rw [List.append_nil]
  refine ⟨by rw [v1.length, h.1], Hd T ρ1 σ, ds, _, fun a => r1.hdLv, v1, h.2, fun l us es H' hl hl' hq e rr => ?_⟩
  have r2 : RS X.K (plus T l) ρ1 σ H' := by
    have r3 := (r1.laid (o := .lst us) hl)
    refine r3.grow fun a o w => ?_
    by_cases z : a = l
    · subst z; rw [upd_same] at w; rw [hl', w]
    · rw [upd_ne z] at w; exact e a o w
  refine q es ρ1 l us H' (none_back p1 hl) hl' r2 (rr.mono (hide_sub fun a w => ?_)) (p1.trans (.grow e)) hq
  rcases w with (w | w) | w
  · exact .inl w
  · exact .inr (.inl w)
  · exact .inr (.inr w)
structure JSL (X : Cx) (st : List Stmt) (f : (List D → Prop) → Env → Prop) : Prop where
  ex : ∃ t, PSs X st t ∧ ∀ (T : Addr → Prop) (ρ : Env) (σ : L2.St) (H : Hp) (QD : List D → Prop) (D : Ends), RS X.K T ρ σ H → f QD ρ →
    (∀ es ρ' σ' l us H', H l = none → H' l = some (.lst us) → RS X.K (plus T l) ρ' σ' H' → RpAll X.K (hide (Hd (plus T l) ρ' σ') H') us es → Po ρ σ H ρ' σ' H' → QD es → D.rt (.ref l) H') → t D σ H
theorem jsl_ret {g : DL} (ha : JL X e g) : JSL X [.Return (some e) pos] (fun Q ρ => g ρ fun es _ => Q es) := by
  obtain ⟨t, pt, kt⟩ := ha.ex
  refine ⟨_, pss_cons (ps_ret pt) pss_nil, fun T ρ σ H QD D r h k => kt T ρ σ H _ _ r h fun es ρ1 l us H1 n s r1 v1 p1 h => k es ρ1 σ l us H1 n s r1 v1 p1 h⟩
theorem jsl_cons {st : Stmt} {sts : List Stmt} {g : DS} {f : (List D → Prop) → Env → Prop} (h1 : JS X st g) (h2 : JSL X sts f) : JSL X (st :: sts) (fun Q ρ => g { nx := f Q, rt := fun _ _ => False } ρ) := by
  obtain ⟨t1, p1, k1⟩ := h1.ex
  obtain ⟨t2, p2, k2⟩ := h2.ex
  refine ⟨_, pss_cons p1 p2, fun T ρ σ H QD D r h k => k1 T ρ σ H _ _ r h ⟨fun ρ1 σ1 H1 r1 q1 h => k2 T ρ1 σ1 H1 _ _ r1 h fun es ρ' σ' l us H' n s r' v' p' hq => k es ρ' σ' l us H' (none_back q1 n) s r' v' (q1.trans p') hq, fun _ _ _ _ _ _ _ _ h => h.elim, fun _ _ _ _ _ h => h.elim, fun _ _ _ _ _ h => h.elim⟩⟩
/-! ### a def of the text and what it promises -/
def Ok (P : Program) (w : World) (K : PySem.W.Frag) (mg : Str → Option Value) (base : Heap) (x : Str) (ps : List Str) (k : Nat) (sp : Sp) : Prop :=
  ∃ f fd, FnOk P w K mg base L2.CX0 k f fd ps sp ∧ mg x = some (.ref f) ∧ PySem.W.keepIn K (.ref f) = true ∧ Binds K fd ps []
theorem je_fn {S : List D → (D → Prop) → Prop} {g : DA} (O : Ok X.prog X.w X.K X.mg X.base x ps k (spD X.K n S)) (hr : Room k X.A) (ha : JA X (e :: es) g) (hg : Gl X x := by rfl)
    (hdb : (x == ("__debug__" : Str)) = false := by decide) (he : starEach (e :: es) X.env = (false, eval e X.env) :: starEach es X.env := by rfl) (hpl : (backTo pos (starEach es X.env)).any (·.1) = false := by rfl) : JE X (.Call (.Name x p) (e :: es) [] pos) (dCallF n S g) := by
  obtain ⟨f, fd, F, hm, hk, hb⟩ := O
  exact je_call F hr hm hk hb ha hg hdb he hpl
theorem je_fn0 {S : List D → (D → Prop) → Prop} (O : Ok X.prog X.w X.K X.mg X.base x ps k (spD X.K n S)) (hr : Room k X.A) (hg : Gl X x := by rfl) (hdb : (x == ("__debug__" : Str)) = false := by decide) : JE X (.Call (.Name x p) [] [] pos) (dCallF n S aNil) := by
  obtain ⟨f, fd, F, hm, hk, hb⟩ := O
  exact je_call0 F hr hm hk hb hg hdb
theorem jl_fn {S : List D → (List D → Prop) → Prop} {g : DA} (O : Ok X.prog X.w X.K X.mg X.base x ps k (spL X.K n S)) (hr : Room k X.A) (ha : JA X (e :: es) g) (hg : Gl X x := by rfl)
    (hdb : (x == ("__debug__" : Str)) = false := by decide) (he : starEach (e :: es) X.env = (false, eval e X.env) :: starEach es X.env := by rfl) (hpl : (backTo pos (starEach es X.env)).any (·.1) = false := by rfl) : JL X (.Call (.Name x p) (e :: es) [] pos) (lCall n S g) := by
  obtain ⟨f, fd, F, hm, hk, hb⟩ := O
  exact jl_call F hr hm hk hb ha hg hdb he hpl
theorem je_fnM {i : Nat} {px : Pos} {S : List D → List D → (D → List D → Prop) → Prop} {g : DA} (O : Ok X.prog X.w X.K X.mg X.base x ps k (spM X.K n S)) (hr : Room k X.A) (hN : X.N[i]? = some y) (hv : Vis X.env.scope y) (ha : JA X es g) (hg : Gl X x := by rfl) (hd : (y == ("__debug__" : Str)) = false := by decide) (hcd : (y == ("__classdict__" : Str)) = false := by decide)
    (hdb : (x == ("__debug__" : Str)) = false := by decide) (he : starEach (Expr.Name y px :: es) X.env = (false, eval (Expr.Name y px) X.env) :: starEach es X.env := by rfl) (hpl : (backTo pos (starEach es X.env)).any (·.1) = false := by rfl) : JE X (.Call (.Name x p) (.Name y px :: es) [] pos) (dCallM i n S g) := by
  obtain ⟨f, fd, F, hm, hk, hb⟩ := O
  exact je_callM F hr hm hk hb hN hv ha hg hd hcd hdb he hpl
/-- a def of the text: its function object, its name -/
def Is (K : PySem.W.Frag) (mg : Str → Option Value) (x : Str) (st : Stmt) : Prop := ∃ f fd, FunD K x x (defArgs st) (defBody st) (defScope st) [] [] f fd ∧ mg x = some (.ref f)
abbrev BindsAs (x : Str) (st : Stmt) (ps : List Str) : Prop := ∀ (kV doc pm : Value) (an : Option Addr) (cdv ct : Value) (us : List Value), us.length = ps.length → bindArgs (PySem.W.fnOf x x (defArgs st) (defBody st) (defScope st) .none kV doc pm an cdv ct) ⟨us, []⟩ = pure (ps.zip us)
/-- the contexts in which a def's body runs -/
abbrev BodyCx (P : Program) (w : World) (K : PySem.W.Frag) (mg : Str → Option Value) (base : Heap) (x : Str) (st : Stmt) (N : List Str) (k : Nat) (J : Cx → Prop) : Prop :=
  ∀ (f : Addr) (cdv : Value) (A : Around) (outer : List PySem.Env) (s : Shared) (H : Hp) (E : XK), Room k (A.deeper (envOfC x (defScope st) s.heap.objs.size f cdv)) → J (cxOf L2.CX0 P w K mg base N x (defScope st) f cdv A outer s H E).nox
section
variable {P : Program} {w : World} {K : PySem.W.Frag} {mg : Str → Option Value} {base : Heap} {st : Stmt} {N : List Str}
theorem ok_D {S : List D → (D → Prop) → Prop} {g : DS} (F : Is K mg x st) (Sc : FnScope N ps (defScope st)) (bs : BindsAs x st ps) (hb : BodyCx P w K mg base x st N k fun X => JSs X (defBody st) g)
    (hS : ∀ (ds : List D) (Q : D → Prop), ds.length = ps.length → S ds Q → g { nx := fun _ => Q .none, rt := fun d _ => Q d } (envD ds (N.length - ps.length))) : Ok P w K mg base x ps (k + 1) (spD K ps.length S) := by
  obtain ⟨f, fd, F, hm⟩ := F
  exact ⟨f, fd, fn_D F Sc (fun cdv A outer s H E hr => hb f cdv A outer s H E hr) hS, hm, F.kp, F.bindsN bs⟩
theorem ok_M {S : List D → List D → (D → List D → Prop) → Prop} {g : DS} (F : Is K mg x st) (Sc : FnScope N ps (defScope st)) (bs : BindsAs x st ps) (hb : BodyCx P w K mg base x st N k fun X => JSs X (defBody st) g)
    (hS : ∀ (l : Addr) (ms ds : List D) (Q : D → List D → Prop), ds.length + 1 = ps.length → S ms ds Q → g { nx := fun ρ => ∃ ms', ρ[0]? = some (some (.ow (.par l (.lst ms')))) ∧ Q .none ms', rt := fun d ρ => ∃ ms', ρ[0]? = some (some (.ow (.par l (.lst ms')))) ∧ Q d ms' } (some (.ow (.par l (.lst ms))) :: envD ds (N.length - ps.length))) :
    Ok P w K mg base x ps (k + 1) (spM K ps.length S) := by
  obtain ⟨f, fd, F, hm⟩ := F
  exact ⟨f, fd, fn_M F Sc (fun cdv A outer s H E hr => hb f cdv A outer s H E hr) hS, hm, F.kp, F.bindsN bs⟩
theorem envD_rs {T : Addr → Prop} {H : Hp} {vs : List V} {ds : List D} {m : Nat} (hl : vs.length + m = N.length) (hT : ∀ a, T a → Lv H a) (rv : RpAll K (hide T H) vs ds) : RS K T (envD ds m) (L2.start N vs) H ∧ ∀ a, ¬ Own (envD ds m) (L2.start N vs) a := by
  have no : ∀ a, ¬ Own (envD ds m) (L2.start N vs) a := fun a ⟨i, mm, h1, _⟩ => by
    obtain ⟨d, _, z⟩ := envD_get h1
    cases z
  have e0 : Ex (hide T H) (hide (Hd T (envD ds m) (L2.start N vs)) H) := hide_sub fun a w => w.elim id fun w => (no a w).elim
  refine ⟨⟨?_, fun i d h => ?_, fun i m h => ?_, fun i j m m' a h1 _ _ _ => ?_, fun a _ => no a, hT, fun i q m a h1 _ => ?_⟩, no⟩
  · rw [envD_len]; unfold L2.start; simp [rv.length] at hl ⊢; omega
  · obtain ⟨d', h1, z⟩ := envD_get h
    cases z
    obtain ⟨v, h2, h3⟩ := rv.get h1
    exact ⟨v, start_get h2, h3.mono e0⟩
  · obtain ⟨d, _, z⟩ := envD_get h; cases z
  · obtain ⟨d, _, z⟩ := envD_get h1; cases z
  · obtain ⟨d, _, z⟩ := envD_get h1; cases z
theorem ok_L {S : List D → (List D → Prop) → Prop} {g : (List D → Prop) → Env → Prop} (F : Is K mg x st) (Sc : FnScope N ps (defScope st)) (bs : BindsAs x st ps) (hb : BodyCx P w K mg base x st N k fun X => JSL X (defBody st) g)
    (hS : ∀ (ds : List D) (Q : List D → Prop), ds.length = ps.length → S ds Q → g Q (envD ds (N.length - ps.length))) : Ok P w K mg base x ps (k + 1) (spL K ps.length S) := by
  obtain ⟨f, fd, F, hm⟩ := F
  refine ⟨f, fd, ?_, hm, F.kp, F.bindsN bs⟩
  refine F.ok Sc (fun vs H Q E h => h.1) (fun cdv A outer s H vs Q E hr h => ?_)
  obtain ⟨t, pt, kt⟩ := (hb f cdv A outer s H E hr).ex
  refine ⟨t, PSs.nox pt, ?_⟩
  obtain ⟨hl, T, ds, QD, hT, rv, hs, hq⟩ := h
  have hl2 : ds.length = ps.length := by rw [← rv.length, hl]
  have hN : ps.length ≤ N.length := by have := congrArg List.length Sc.pre; rw [List.length_take] at this; omega
  obtain ⟨r0, no⟩ := envD_rs (m := N.length - ps.length) (N := N) (by omega) hT rv
  refine kt T _ _ H _ _ r0 (hS ds QD hl2 hs) fun es ρ' σ' l us H' n s r' v' p' h => ?_
  exact hq l us es H' n s h (fun a o w => p'.keep a o (no a) w) (v'.mono (hide_sub fun a w => .inl w))
end
end
end Dn
set_option Elab.async false
set_option linter.all false
set_option maxRecDepth 100000
set_option autoImplicit false
set_option maxHeartbeats 4000000
namespace Dn
open PySem L2 Evl PySem.Spec PyProof.Rows
section
variable {X : Cx} {a b c e : Expr} {fa fb fc : DE} {pos p : Pos} {es : List Expr} {x y : Str}
theorem je_v (i : Nat) (hN : X.N[i]? = some x := by rfl) (hv : Vis X.env.scope x := by first | exact Or.inl rfl | exact Or.inr (Or.inl rfl) | exact Or.inr (Or.inr rfl)) (hd : (x == ("__debug__" : Str)) = false := by decide) (hcd : (x == ("__classdict__" : Str)) = false := by decide) : JE X (.Name x pos) (dVar i) := je_var hN hv hd hcd
theorem je_vF (i : Nat) (hN : X.N[i]? = some x := by rfl) (hv : Vis X.env.scope x := by first | exact Or.inl rfl | exact Or.inr (Or.inl rfl) | exact Or.inr (Or.inr rfl)) (hd : (x == ("__debug__" : Str)) = false := by decide) (hcd : (x == ("__classdict__" : Str)) = false := by decide) : JE X (.Name x pos) (dVarF i) := je_varF hN hv hd hcd
theorem jg_n (i : Nat) {vs : List Nat} (hN : X.N.Nodup) (hi : X.N[i]? = some x := by rfl) (hx : Loc X.env.scope x := by first | exact Or.inl rfl | exact Or.inr rfl) (hv : i ∈ vs := by decide) (hf : X.fn x = true ∨ X.env.scope.names.lookup x = some .local := by first | exact Or.inl rfl | exact Or.inr rfl) : JG X (.Name x pos) vs (gNm i) := jg_name hN hi hx hv hf
theorem jt_cmpO {op : D → D → (D → Prop) → Prop} {i : Nat} {py : Pos} {o : CmpOp} (ho : OpD X (compareOp o) op) (hN : X.N[i]? = some y) (hy : Vis X.env.scope y) (hb : JE X b fb) (hm : behindInMarks o b = false)
    (hd : (y == ("__debug__" : Str)) = false := by decide) (hcd : (y == ("__classdict__" : Str)) = false := by decide) : JT X (.Compare (.Name y py) [o] [b] pos) (dTst (dBinO i op fb)) := by
  obtain ⟨r, h1, h2⟩ := ho.ex
  obtain ⟨tb, pb, kb⟩ := hb.ex
  refine ⟨_, pt_cmpR h1 (pe_var hN hy hd hcd) pb hm, fun T ρ σ H QD Q r h q => ?_⟩
  obtain ⟨⟨m, hm⟩, h⟩ := h
  obtain ⟨a, o, ha, _, _⟩ := r.ow i m hm
  refine ⟨_, ha, kb T ρ σ H _ _ r h fun y ρ1 v H1 r1 p1 v1 h => ?_⟩
  split at h
  · rename_i ds e1
    have rf := r1.freeze e1
    obtain ⟨u, hu, ru⟩ := rf.im i (.list ds) (List.getElem?_set_self (List.getElem?_eq_some_iff.mp e1).1)
    rw [ha] at hu; cases hu
    refine h2 _ H1 _ _ _ _ _ _ (fun a => rf.hdDom) ru (v1.mono hd_freeze) h fun z w H' e v2 h => ?_
    cases v2 with
    | bl b => exact ⟨b, rfl, q _ _ _ (r1.grow e) (p1.trans (.grow e)) h.2⟩
    | _ => exact False.elim h.2
  · exact False.elim h
theorem jt_chain {o o' : CmpOp} {op op' : D → D → (D → Prop) → Prop} (ho : OpD X (compareOp o) op) (ho' : OpD X (compareOp o') op') (ha : JE X a fa) (hb : JE X b fb) (hc : JE X c fc) (hm : lastMarks [o, o'] [b, c] = false := by with_unfolding_all rfl) :
    JT X (.Compare a [o, o'] [b, c] pos) (dTst (dChain op op' fa fb fc)) := by
  obtain ⟨r, h1, h2⟩ := ho.ex
  obtain ⟨r', h1', h2'⟩ := ho'.ex
  obtain ⟨ta, pa, ka⟩ := ha.ex
  obtain ⟨tb, pb, kb⟩ := hb.ex
  obtain ⟨tc, pc, kc⟩ := hc.ex
  refine ⟨_, pt_chain h1 h1' pa pb pc hm, fun T ρ σ H QD Q r h k => ?_⟩
  refine ka T ρ σ H _ _ r h fun d ρ1 v H1 r1 p1 v1 h => ?_
  refine kb T ρ1 σ H1 _ _ r1 h fun e ρ2 w H2 r2 p2 v2 h => ?_
  refine h2 (Hd T ρ2 σ) H2 v w d e _ _ (fun a => r2.hdDom) (v1.mono p2.fz) v2 h fun z u H3 e3 v3 h => ?_
  have r3 := r2.grow e3
  have p3 : Po ρ2 σ H2 ρ2 σ H3 := .grow e3
  cases v3 with
  | bl q =>
    refine ⟨q, rfl, ?_⟩
    cases q with
    | false => exact ⟨false, rfl, k _ _ _ r3 ((p1.trans p2).trans p3) h⟩
    | true =>
      rw [if_pos rfl]
      refine kc T ρ2 σ H3 _ _ r3 h fun g ρ4 y H4 r4 p4 v4 h => ?_
      refine h2' (Hd T ρ4 σ) H4 w y e g _ _ (fun a => r4.hdDom) ((v2.mono p3.fz).mono p4.fz) v4 h fun z u H5 e5 v5 h => ?_
      cases v5 with
      | bl b => exact ⟨b, rfl, k b ρ4 H5 (r4.grow e5) (((p1.trans p2).trans p3).trans (p4.trans (.grow e5))) h⟩
      | _ => exact False.elim h
  | _ => exact False.elim h
/-- a + b of lists, as a new list -/
def lCat (fa fb : DE) : DL := fun ρ Q => fa ρ fun d ρ1 => fb ρ1 fun e ρ2 => ∃ xs ys, d = .list xs ∧ e = .list ys ∧ xs.length + ys.length ≤ 16777216 ∧ Q (xs ++ ys) ρ2
theorem jl_cat (ha : JE X a fa) (hb : JE X b fb) : JL X (.BinOp a .Add b pos) (lCat fa fb) := by
  obtain ⟨ta, pa, ka⟩ := ha.ex
  obtain ⟨tb, pb, kb⟩ := hb.ex
  refine ⟨_, pe_op op_cat pa pb, fun T ρ σ H QD Q r h q => ka T ρ σ H _ _ r h fun d ρ1 v H1 r1 p1 v1 h => kb T ρ1 σ H1 _ _ r1 h fun e ρ2 w H2 r2 p2 v2 h => ?_⟩
  obtain ⟨xs, ys, rfl, rfl, hz, h⟩ := h
  have v1' := v1.mono p2.fz
  cases v1' with
  | lst hp rp =>
    cases v2 with
    | lst hq rq =>
      refine ⟨_, _, _, _, rfl, rfl, at_of hp, at_of hq, by rw [rp.length, rq.length]; exact hz, fun l hl => ?_⟩
      exact q _ _ l _ _ (none_back (p1.trans p2) hl) upd_same (r2.laid hl) ((rp.append rq).mono (hd_laid hl)) ((p1.trans p2).trans (.grow (Ex.new hl))) h
/-- enumerate of a list or a tuple -/
def iEn0 (K : PySem.W.Frag) (ta : TA) : TI := fun σ H R => ta σ H fun vs H1 => ∃ a, vs = [.ref a] ∧ (((∃ xs, SqL K H1 a xs) ∧ R (Ite K a) H1) ∨ ((∃ xs, SqT K H1 a xs) ∧ R (IteT K a) H1))
theorem pi_en {ta : TA} {tpos : Pos} {elts : List Expr} {kk : Nat} (hg : Gl X "enumerate") (hm : X.mg "enumerate" = none) (ha : PA X [e] ta) (hs : starEach [e] X.env = [(false, eval e X.env)] := by rfl) :
    PI X (.Tuple elts kk tpos) (.Call (.Name "enumerate" p) [e] [] pos) (iEn0 X.K ta) := by
  refine ⟨fun pins s σ H R I h => ?_⟩
  refine Call_ (ld_blt I hg hm boot_enumerate (PyProof.Rows.callWith_type1 (thn (ha.run pos pins s σ H _ I h) fun us s1 ⟨vs, H1, I1, r1, q1⟩ => ?_) hs rfl))
  obtain ⟨a, rfl, h⟩ := q1
  obtain ⟨u, rfl, ru⟩ := vals1 r1
  cases ru
  have fp : ∀ b ∈ [s1.heap.objs.size + 1, s1.heap.objs.size], FpOk X pins H1 b := fun b hb => by
    have ge : s1.heap.objs.size ≤ b := by
      rcases (show b = s1.heap.objs.size + 1 ∨ b = s1.heap.objs.size by simpa using hb) with z | z <;> subst z
      · exact Nat.le_succ _
      · exact Nat.le_refl _
    exact I1.fpOk ge (I1.hok.fresh ge)
  rcases h with ⟨⟨xs, hq⟩, h⟩ | ⟨⟨xs, hq⟩, h⟩
  · obtain ⟨its, rv, isL, hz⟩ := I1.list hq
    refine call_enumerate_list isL.isList fun hp he hit _ hk => wpAny_pyIter_enum he ?_
    have I2 : Inv X pins σ H1 { s1 with heap := hp } := I1.kept (t' := s1.toks) hk
    exact ⟨s1.heap.objs.size + 1, [s1.heap.objs.size + 1, s1.heap.objs.size], _, _, H1, rfl, I2, turn_enum a (s1.heap.objs.size + 1) s1.heap.objs.size, ⟨⟨.none, he⟩, hit, Nat.succ_ne_self _⟩, fp, h⟩
  · obtain ⟨its, rv, isT, hz⟩ := I1.tuple hq
    refine own_enum_call (show s1.heap.IsTuple a its.toArray from isT) fun hp he hit hk => wpAny_pyIter_enum he ?_
    have I2 : Inv X pins σ H1 { s1 with heap := hp } := I1.kept (t' := s1.toks) hk
    exact ⟨s1.heap.objs.size + 1, [s1.heap.objs.size + 1, s1.heap.objs.size], _, _, H1, rfl, I2, turn_enT a (s1.heap.objs.size + 1) s1.heap.objs.size, ⟨⟨.none, he⟩, hit, Nat.succ_ne_self _⟩, fp, h⟩
theorem it_enL {K : PySem.W.Frag} {G : Hp} {a : Addr} {xs : List V} {ds : List D} (hp : SqL K G a xs) (rr : RpAll K G xs ds) : ItOk K (Ite K a) G (enD ds) :=
  ⟨fun H e => ⟨xs, ex_l e hp, by rw [enD_len, rr.length]; exact Nat.le_refl _⟩, fun i d H hd e => by
    obtain ⟨g, hg, rfl⟩ := enD_get hd
    obtain ⟨u, hu, ru⟩ := rr.get hg
    refine ⟨⟨xs, u, ex_l e hp, hu⟩, fun x H' y => ?_⟩
    obtain ⟨l, z, rfl, hl, rfl, y⟩ := y
    have := y xs (ex_l e hp)
    rw [hu] at this; cases this
    exact ⟨Ex.new hl, fun O hO eo => rp_newT hO hl (.cons (.int _) (.cons (ru.mono eo) .nil))⟩⟩
theorem it_enT {K : PySem.W.Frag} {G : Hp} {a : Addr} {xs : List V} {ds : List D} (hp : SqT K G a xs) (rr : RpAll K G xs ds) : ItOk K (IteT K a) G (enD ds) :=
  ⟨fun H e => ⟨xs, ex_t e hp, by rw [enD_len, rr.length]; exact Nat.le_refl _⟩, fun i d H hd e => by
    obtain ⟨g, hg, rfl⟩ := enD_get hd
    obtain ⟨u, hu, ru⟩ := rr.get hg
    refine ⟨⟨xs, u, ex_t e hp, hu⟩, fun x H' y => ?_⟩
    obtain ⟨l, z, rfl, hl, rfl, y⟩ := y
    have := y xs (ex_t e hp)
    rw [hu] at this; cases this
    exact ⟨Ex.new hl, fun O hO eo => rp_newT hO hl (.cons (.int _) (.cons (ru.mono eo) .nil))⟩⟩
def iEn (f : DE) : DL := fun ρ Q => f ρ fun d ρ1 => ∃ ds, seqD d = some ds ∧ Q (enD ds) ρ1
theorem ji_en {elts : List Expr} {kk : Nat} {tpos : Pos} (hm : X.mg "enumerate" = none) (ha : JE X a fa) (hg : Gl X "enumerate" := by rfl) (hs : starEach [a] X.env = [(false, eval a X.env)] := by rfl) : JI X (.Tuple elts kk tpos) (.Call (.Name "enumerate" p) [a] [] pos) (iEn fa) := by
  obtain ⟨t, pt, kt⟩ := ha.ex
  refine ⟨_, pi_en hg hm (pa_cons pt pa_nil hs) hs, fun T ρ σ H QD R r h q => kt T ρ σ H _ _ r h fun d ρ1 v H1 r1 p1 v1 h => ?_⟩
  obtain ⟨ds, e, h⟩ := h
  cases v1
  case dct h1 h2 h3 => rw [h3, seq_dk] at e; cases e
  all_goals simp only [seqD, Option.some.injEq, reduceCtorEq] at e
  · subst e
    rename_i hp rr
    exact ⟨_, rfl, .inl ⟨⟨_, .inl (.inl (at_of hp))⟩, q _ _ _ _ r1 p1 (it_enL (.inl (.inl hp)) rr) h⟩⟩
  · subst e
    rename_i hp rr
    exact ⟨_, rfl, .inr ⟨⟨_, sqt_of hp⟩, q _ _ _ _ r1 p1 (it_enT (lt_of hp) rr) h⟩⟩
  · subst e
    rename_i hp rr
    exact ⟨_, rfl, .inl ⟨⟨_, sql_of hp⟩, q _ _ _ _ r1 p1 (it_enL hp rr) h⟩⟩
/-- products: one factor small, or both within a million bits -/
abbrev dMulA := dI2 (fun i j => CMul i j ∨ CMulW i j) fun i j => .int (i * j)
theorem opd_mulA : OpD X (binaryOp .Mult) dMulA := by
  refine ⟨_, .or op_mul op_mulW, fun O H x y d e QD Q hO rx ry h k => ?_⟩
  cases rx <;> cases ry <;> first | exact False.elim h | skip
  obtain ⟨h1, h2⟩ := h
  rcases h1 with h1 | h1
  · exact .inl ⟨_, _, rfl, rfl, h1, k _ _ H (.refl H) (.int _) h2⟩
  · exact .inr ⟨_, _, rfl, rfl, h1, k _ _ H (.refl H) (.int _) h2⟩
/-- n += e -/
def sAugI (i : Nat) (f : DE) : DS := fun E ρ => match ρ[i]? with
  | some (some (.im (.int n))) => f ρ fun d ρ1 => match d with
    | .int k => E.nx (ρ1.set i (some (.im (.int (n + k)))))
    | _ => False
  | _ => False
end
end Dn
set_option Elab.async false
set_option linter.all false
set_option maxRecDepth 100000
set_option autoImplicit false
set_option maxHeartbeats 4000000
/-! What readings over slots come to: loops, comprehensions, rows of ints. -/
namespace Dn
open PySem L2 Evl PySem.Spec PyProof.Rows
def dNever : DE := fun _ _ => False
theorem je_never {X : Cx} {e : Expr} : JE X e dNever := ⟨fun _ _ _ => False, ⟨fun _ _ _ _ _ _ h => h.elim⟩, fun _ _ _ _ _ _ _ h _ => h.elim⟩
theorem wpLc_cps {g : DG} {tt : DT} {te : DE} {vs : List Nat} {Q : List D → Env → Prop} (P : List D → List D → Env → Prop) {ds : List D} {ρ0 : Env} (h0 : P [] [] ρ0)
    (hs : ∀ (done : List D) (d : D) (rest acc : List D) (ρ : Env) (K : List D → Env → Prop), ds = done ++ d :: rest → P done acc ρ → (∀ acc' ρ', P (done ++ [d]) acc' ρ' → K acc' ρ') →
      acc.length < 16777216 ∧ g d (wipeD ρ vs) fun ρ1 => tt ρ1 fun b ρ2 => if b = true then te ρ2 fun y ρ3 => K (acc ++ [y]) (wipeD ρ3 vs) else K acc (wipeD ρ2 vs))
    (he : ∀ acc ρ, P ds acc ρ → Q acc ρ) : wpLc g tt te vs Q ds [] ρ0 := by
  have aux : ∀ (rest done acc : List D) (ρ : Env), ds = done ++ rest → P done acc ρ → wpLc g tt te vs Q rest acc ρ := by
    intro rest
    induction rest with
    | nil => intro done acc ρ e p; rw [List.append_nil] at e; subst e; exact he acc ρ p
    | cons d rest ih =>
      intro done acc ρ e p
      exact hs done d rest acc ρ _ e p fun acc' ρ' p' => ih (done ++ [d]) acc' ρ' (by rw [e]; simp) p'
  exact aux ds [] [] ρ0 rfl h0
/-- each item by itself, the slots left as they are -/
theorem wpLc_map {g : DG} {tt : DT} {te : DE} {vs : List Nat} {Q : List D → Env → Prop} (h : D → D) {ds : List D} {ρ0 : Env} (hl : ds.length < 16777216) (hw : wipeD ρ0 vs = ρ0)
    (hs : ∀ d, d ∈ ds → ∀ (K : D → Env → Prop), (∀ ρ3, wipeD ρ3 vs = ρ0 → K (h d) ρ3) → g d ρ0 fun ρ1 => tt ρ1 fun b ρ2 => if b = true then te ρ2 fun y ρ3 => K y ρ3 else False)
    (hf : ∀ d ρ1, d ∈ ds → tt ρ1 = fun K => K true ρ1) (he : Q (ds.map h) ρ0) : wpLc g tt te vs Q ds [] ρ0 := by
  refine wpLc_cps (fun done acc ρ => acc = done.map h ∧ ρ = ρ0) ⟨rfl, rfl⟩ (fun done d rest acc ρ K e p k => ?_) (fun acc ρ p => by obtain ⟨rfl, rfl⟩ := p; exact he)
  obtain ⟨rfl, rfl⟩ := p
  have hm : d ∈ ds := by rw [e]; simp
  refine ⟨by rw [List.length_map]; have := congrArg List.length e; simp at this; omega, ?_⟩
  rw [hw]
  have z := hs d hm (fun y ρ3 => K (done.map h ++ [y]) (wipeD ρ3 vs)) fun ρ3 w => by rw [w]; exact k _ _ ⟨by simp, rfl⟩
  have e2 : (fun ρ1 => tt ρ1 fun b ρ2 => if b = true then te ρ2 fun y ρ3 => K (done.map h ++ [y]) (wipeD ρ3 vs) else False) = fun ρ1 => tt ρ1 fun b ρ2 => if b = true then te ρ2 fun y ρ3 => K (done.map h ++ [y]) (wipeD ρ3 vs) else K (done.map h) (wipeD ρ2 vs) := by
    funext ρ1
    rw [hf d ρ1 hm]
    simp
  rw [← e2]
  exact z
/-- items that pass a test -/
theorem wpLc_fil {g : DG} {tt : DT} {te : DE} {vs : List Nat} {Q : List D → Env → Prop} (p : D → Bool) (h : D → D) {ds : List D} {ρ0 : Env} (hl : ds.length < 16777216) (hw : wipeD ρ0 vs = ρ0)
    (hs : ∀ d, d ∈ ds → ∀ (K : D → Env → Prop) (N : Env → Prop), (p d = true → ∀ ρ3, wipeD ρ3 vs = ρ0 → K (h d) ρ3) → (p d = false → ∀ ρ3, wipeD ρ3 vs = ρ0 → N ρ3) → g d ρ0 fun ρ1 => tt ρ1 fun b ρ2 => if b = true then te ρ2 fun y ρ3 => K y ρ3 else N ρ2)
    (he : Q ((ds.filter p).map h) ρ0) : wpLc g tt te vs Q ds [] ρ0 := by
  refine wpLc_cps (fun done acc ρ => acc = (done.filter p).map h ∧ ρ = ρ0) ⟨rfl, rfl⟩ (fun done d rest acc ρ K e q k => ?_) (fun acc ρ q => by obtain ⟨rfl, rfl⟩ := q; exact he)
  obtain ⟨rfl, rfl⟩ := q
  have hm : d ∈ ds := by rw [e]; simp
  refine ⟨?_, ?_⟩
  · rw [List.length_map]
    have h1 := List.length_filter_le p done
    have := congrArg List.length e
    simp at this
    omega
  · rw [hw]
    refine hs d hm (fun y ρ3 => K ((done.filter p).map h ++ [y]) (wipeD ρ3 vs)) (fun ρ2 => K ((done.filter p).map h) (wipeD ρ2 vs)) (fun hp ρ3 w => ?_) (fun hp ρ3 w => ?_)
    · rw [w]; exact k _ _ ⟨by rw [List.filter_append, List.filter_cons_of_pos (by exact hp)]; simp, rfl⟩
    · rw [w]; exact k _ _ ⟨by rw [List.filter_append, List.filter_cons_of_neg (by simp [hp])]; simp, rfl⟩
theorem wpFor_cps {g : DG} {body : DS} {E : DEnds} (P : List D → Env → Prop) {ds : List D} {ρ0 : Env} (h0 : P [] ρ0)
    (hs : ∀ (done : List D) (d : D) (rest : List D) (ρ : Env) (K : Env → Prop), ds = done ++ d :: rest → P done ρ → (∀ ρ', P (done ++ [d]) ρ' → K ρ') → g d ρ fun ρ1 => body { nx := K, ct := K, bk := E.nx, rt := E.rt } ρ1)
    (he : ∀ ρ, P ds ρ → E.nx ρ) : wpFor g body E ds ρ0 := by
  have aux : ∀ (rest done : List D) (ρ : Env), ds = done ++ rest → P done ρ → wpFor g body E rest ρ := by
    intro rest
    induction rest with
    | nil => intro done ρ e p; rw [List.append_nil] at e; subst e; exact he ρ p
    | cons d rest ih =>
      intro done ρ e p
      exact hs done d rest ρ _ e p fun ρ' p' => ih (done ++ [d]) ρ' (by rw [e]; simp) p'
  exact aux ds [] ρ0 rfl h0
/-- a search that returns what it finds first -/
theorem wpFor_find {g : DG} {body : DS} {N bk ct : Env → Prop} {Q : D → Prop} {ds : List D} {ρ0 : Env} (f : D → Option D) (I : Env → Prop) (h0 : I ρ0)
    (hs : ∀ d, d ∈ ds → ∀ (ρ : Env) (K B : Env → Prop), I ρ → (∀ v, f d = some v → Q v) → (f d = none → ∀ ρ', I ρ' → K ρ') → g d ρ fun ρ1 => body { nx := K, ct := K, bk := B, rt := fun d _ => Q d } ρ1)
    (hf : ∀ v, ds.findSome? f = some v → Q v) (hn : ds.findSome? f = none → ∀ ρ, I ρ → N ρ) : wpFor g body { nx := N, rt := fun d _ => Q d, bk := bk, ct := ct } ds ρ0 := by
  induction ds generalizing ρ0 with
  | nil => exact hn rfl ρ0 h0
  | cons d ds ih =>
    refine hs d List.mem_cons_self ρ0 _ _ h0 (fun v e => hf v ?_) (fun e ρ' i => ih i (fun d hd => hs d (List.mem_cons_of_mem _ hd)) (fun v h => hf v ?_) fun h => hn ?_)
    · rw [List.findSome?_cons, e]
    · rw [List.findSome?_cons, e]; exact h
    · rw [List.findSome?_cons, e]; exact h

/-! ### tuples of ints, rows -/
def tI (ns : List Int) : D := .tuple (ns.map PyData.int)
def tR (rs : List (List Int)) : D := .tuple (rs.map tI)
theorem eqvAll_int : ∀ (a b : List Int), PyData.eqvAll (a.map PyData.int) (b.map PyData.int) = decide (a = b)
  | [], [] => by simp [PyData.eqvAll]
  | [], _ :: _ => by simp [PyData.eqvAll]
  | _ :: _, [] => by simp [PyData.eqvAll]
  | x :: a, y :: b => by
    simp only [List.map_cons, PyData.eqvAll, PyData.eqv, eqvAll_int a b]
    by_cases h : x = y <;> simp [h]
theorem eqv_tI (a b : List Int) : PyData.eqv (tI a) (tI b) = decide (a = b) := by unfold tI; simp only [PyData.eqv, eqvAll_int]
theorem eqvAll_tI : ∀ (a b : List (List Int)), PyData.eqvAll (a.map tI) (b.map tI) = decide (a = b)
  | [], [] => by simp [PyData.eqvAll]
  | [], _ :: _ => by simp [PyData.eqvAll]
  | _ :: _, [] => by simp [PyData.eqvAll]
  | x :: a, y :: b => by
    simp only [List.map_cons, PyData.eqvAll, eqv_tI, eqvAll_tI a b]
    by_cases h : x = y <;> simp [h]
theorem eqv_tR (a b : List (List Int)) : PyData.eqv (tR a) (tR b) = decide (a = b) := by unfold tR; simp only [PyData.eqv, eqvAll_tI]
theorem layAll_int : ∀ (a : List Int), PyData.canLayAll0 (a.map PyData.int) = true ∧ PyData.depthAll (a.map PyData.int) = 0
  | [] => by simp [PyData.canLayAll0, PyData.depthAll]
  | x :: a => by simp [PyData.canLayAll0, PyData.canLay0, PyData.depthAll, PyData.depth, layAll_int a]
theorem lay_tI (a : List Int) : (tI a).canLay0 = true ∧ (tI a).depth = 1 := by
  unfold tI; simp [PyData.canLay0, PyData.depth, layAll_int a]
theorem shaped_tI (a : List Int) : SeqAt.shaped (tI a) = true := by
  unfold SeqAt.shaped; simp [lay_tI a]
theorem layAll_tI : ∀ (a : List (List Int)), PyData.canLayAll0 (a.map tI) = true ∧ PyData.depthAll (a.map tI) ≤ 1
  | [] => by simp [PyData.canLayAll0, PyData.depthAll]
  | x :: a => by
    have h := layAll_tI a
    have h2 := lay_tI x
    simp [PyData.canLayAll0, PyData.depthAll, h2.1, h2.2, h.1]
    omega
theorem shaped_tR (a : List (List Int)) : SeqAt.shaped (tR a) = true := by
  have h := layAll_tI a
  unfold SeqAt.shaped tR
  simp [PyData.canLay0, PyData.depth, h.1]
  omega
theorem shaped_int (i : Int) : SeqAt.shaped (.int i) = true := rfl
theorem shaped_bool (i : Bool) : SeqAt.shaped (.bool i) = true := rfl
theorem atI_in {α : Type} {l : List α} {i : Int} {d : α} (h0 : 0 ≤ i) (h1 : i < l.length) : atI l i = some (l.getD i.toNat d) := by
  unfold atI ixN
  rw [if_pos h0, if_pos h1]
  have h2 : i.toNat < l.length := by omega
  simp [List.getD, List.getElem?_eq_getElem h2]
theorem ixI {r : List Int} {i : Int} {Q : D → Prop} (h0 : 0 ≤ i) (h1 : i < r.length) (h : Q (.int (r.getD i.toNat 0))) : dIx (tI r) (.int i) Q := by
  refine ⟨_, atI_in (d := .int 0) h0 (by simpa using h1), ?_⟩
  have h2 : i.toNat < r.length := by omega
  simp [List.getD, List.getElem?_eq_getElem h2] at h ⊢
  exact h
theorem ixR {r : List (List Int)} {i : Int} {Q : D → Prop} (h0 : 0 ≤ i) (h1 : i < r.length) (h : Q (tI (r.getD i.toNat []))) : dIx (tR r) (.int i) Q := by
  refine ⟨_, atI_in (d := tI []) h0 (by simpa using h1), ?_⟩
  have h2 : i.toNat < r.length := by omega
  simp [List.getD, List.getElem?_eq_getElem h2] at h ⊢
  exact h
theorem seq_tI (r : List Int) : seqD (tI r) = some (r.map PyData.int) := rfl
theorem seq_tR (r : List (List Int)) : seqD (tR r) = some (r.map tI) := rfl
/-- square rows of things -/
structure Rw (rs : List (List Int)) : Prop where
  pos : 1 ≤ rs.length
  most : rs.length ≤ 24
  row : ∀ r, r ∈ rs → r.length = rs.length ∧ ∀ x, x ∈ r → 0 ≤ x ∧ x < rs.length
def rc (rs : List (List Int)) (a b : Int) : Int := (rs.getD a.toNat []).getD b.toNat 0
theorem getD_mem {α : Type} {l : List α} {i : Nat} {d : α} (h : i < l.length) : l.getD i d ∈ l := by
  simp [List.getD, List.getElem?_eq_getElem h]
theorem Rw.len {rs : List (List Int)} (h : Rw rs) {a : Int} (a0 : 0 ≤ a) (a1 : a < rs.length) : (rs.getD a.toNat []).length = rs.length := (h.row _ (getD_mem (by omega))).1
theorem Rw.rc {rs : List (List Int)} (h : Rw rs) {a b : Int} (a0 : 0 ≤ a) (a1 : a < rs.length) (b0 : 0 ≤ b) (b1 : b < rs.length) : 0 ≤ rc rs a b ∧ rc rs a b < rs.length := by
  refine (h.row _ (getD_mem (d := []) (show a.toNat < rs.length by omega))).2 _ (getD_mem ?_)
  rw [h.len a0 a1]; omega
/-- rows[a][b] -/
theorem ixRC {rs : List (List Int)} {a b : Int} {Q : D → Prop} (h : Rw rs) (a0 : 0 ≤ a) (a1 : a < rs.length) (b0 : 0 ≤ b) (b1 : b < rs.length) (q : Q (.int (rc rs a b))) : dIx (tR rs) (.int a) fun d => dIx d (.int b) Q :=
  ixR a0 a1 (ixI b0 (by rw [h.len a0 a1]; exact b1) q)
def rgI (n : Nat) : List Int := (List.range n).map fun (k : Nat) => (k : Int)
theorem rgD_rgI (n : Nat) : rgD 0 (n : Int) = (rgI n).map PyData.int := by
  unfold rgD rgI
  simp
theorem mem_rgI {n : Nat} {x : Int} : x ∈ rgI n ↔ 0 ≤ x ∧ x < n := by
  unfold rgI
  simp only [List.mem_map, List.mem_range]
  constructor
  · rintro ⟨k, h, rfl⟩; omega
  · rintro ⟨h0, h1⟩; exact ⟨x.toNat, by omega, by omega⟩
theorem rgI_len (n : Nat) : (rgI n).length = n := by unfold rgI; simp
theorem rgI_get {n k : Nat} (h : k < n) : (rgI n)[k]? = some (k : Int) := by unfold rgI; simp [h]
end Dn
set_option Elab.async false
set_option linter.all false
set_option maxRecDepth 100000
set_option autoImplicit false
set_option maxHeartbeats 4000000
namespace Dn
open PySem L2 Evl PySem.Spec PyProof.Rows
theorem tyN_dl (kvs : List (D × D)) : tyN (.dict kvs) = "dict" ∨ tyN (.dict kvs) = "list" := by
  unfold tyN
  split <;> first | exact .inl rfl | exact .inr rfl | (rename_i h; cases h; done)
theorem kit_int (d : D) : kitB (tyN d) "int" = some (match d with | .int _ => true | .bool _ => true | _ => false) := by
  cases d with
  | dict kvs => rcases tyN_dl kvs with e | e <;> (rw [e]; show _ = some false; decide +kernel)
  | _ => simp only [tyN]; decide +kernel
theorem kit_bool (d : D) : kitB (tyN d) "bool" = some (match d with | .bool _ => true | _ => false) := by
  cases d with
  | dict kvs => rcases tyN_dl kvs with e | e <;> (rw [e]; show _ = some false; decide +kernel)
  | _ => simp only [tyN]; decide +kernel
theorem kit_tuple (d : D) : kitB (tyN d) "tuple" = some (match d with | .tuple _ => true | _ => false) := by
  cases d with
  | dict kvs => rcases tyN_dl kvs with e | e <;> (rw [e]; show _ = some false; decide +kernel)
  | _ => simp only [tyN]; decide +kernel
theorem kit_str (d : D) : kitB (tyN d) "str" = some (match d with | .str _ => true | _ => false) := by
  cases d with
  | dict kvs => rcases tyN_dl kvs with e | e <;> (rw [e]; show _ = some false; decide +kernel)
  | _ => simp only [tyN]; decide +kernel
theorem tst_bool {b : Bool} {Q : Bool → Env → Prop} {ρ : Env} (h : Q b ρ) : (match (PyData.bool b) with | .bool b => Q b ρ | _ => False) := h
/-- a truth value that rules what comes: both ways -/
theorem bool_ways {b : Bool} {P1 P2 : Prop} (h1 : b = true → P1) (h2 : b = false → P2) : (match PyData.bool b with | .bool true => P1 | .bool false => P2 | _ => False) := by
  cases b
  · exact h2 rfl
  · exact h1 rfl
theorem ite_ways {b : Bool} {P1 P2 : Prop} (h1 : b = true → P1) (h2 : b = false → P2) : (if b = true then P1 else P2) := by
  cases b
  · exact h2 rfl
  · exact h1 rfl
/-- the readings, written out -/
local macro_rules | `(tactic| walk_at "dd") => `(tactic| skip)
end Dn
set_option Elab.async false
set_option linter.all false
set_option maxRecDepth 100000
set_option autoImplicit false
set_option maxHeartbeats 4000000
namespace Dn
open PySem L2 Evl PySem.Spec PyProof.Rows
theorem map_split {α β : Type} {f : α → β} {l : List α} {done rest : List β} {d : β} (e : l.map f = done ++ d :: rest) : ∃ l1 x l2, l = l1 ++ x :: l2 ∧ done = l1.map f ∧ d = f x ∧ rest = l2.map f := by
  obtain ⟨l1, l2, h1, h2, h3⟩ := List.map_eq_append_iff.mp e
  cases l2 with
  | nil => simp at h3
  | cons x l2 =>
    simp at h3
    exact ⟨l1, x, l2, h1, h2.symm, h3.1.symm, h3.2.symm⟩
/-- each item by itself, over a list that is made of another one -/
theorem wpLc_mapL {α : Type} {g : DG} {tt : DT} {te : DE} {vs : List Nat} {Q : List D → Env → Prop} (l : List α) (f h : α → D) {ρ0 : Env} (hl : l.length < 16777216) (hw : wipeD ρ0 vs = ρ0)
    (hs : ∀ x, x ∈ l → ∀ (K : D → Env → Prop), (∀ ρ3, wipeD ρ3 vs = ρ0 → K (h x) ρ3) → g (f x) ρ0 fun ρ1 => tt ρ1 fun b ρ2 => if b = true then te ρ2 fun y ρ3 => K y ρ3 else False)
    (hf : ∀ ρ1, tt ρ1 = fun K => K true ρ1) (he : Q (l.map h) ρ0) : wpLc g tt te vs Q (l.map f) [] ρ0 := by
  refine wpLc_cps (fun done acc ρ => ∃ l1 l2, l = l1 ++ l2 ∧ done = l1.map f ∧ acc = l1.map h ∧ ρ = ρ0) ⟨[], l, rfl, rfl, rfl, rfl⟩ (fun done d rest acc ρ K e p k => ?_) (fun acc ρ p => ?_)
  · obtain ⟨l1, x, l2, rfl, rfl, rfl, rfl⟩ := map_split e
    obtain ⟨m1, m2, e1, e2, rfl, rfl⟩ := p
    have e3 : m1 = l1 := by
      have h1 := congrArg List.length e2
      simp at h1
      have h2 := congrArg (List.take m1.length) e1
      rw [List.take_left, h1.symm, List.take_left] at h2
      exact h2.symm
    subst e3
    refine ⟨by simp at hl ⊢; omega, ?_⟩
    rw [hw]
    have z := hs x (by simp) (fun y ρ3 => K (m1.map h ++ [y]) (wipeD ρ3 vs)) fun ρ3 w => by rw [w]; exact k _ _ ⟨m1 ++ [x], l2, by simp, by simp, by simp, rfl⟩
    have e2 : (fun ρ1 => tt ρ1 fun b ρ2 => if b = true then te ρ2 fun y ρ3 => K (m1.map h ++ [y]) (wipeD ρ3 vs) else False) = fun ρ1 => tt ρ1 fun b ρ2 => if b = true then te ρ2 fun y ρ3 => K (m1.map h ++ [y]) (wipeD ρ3 vs) else K (m1.map h) (wipeD ρ2 vs) := by
      funext ρ1
      rw [hf ρ1]
      simp
    rw [← e2]
    exact z
  · obtain ⟨m1, m2, rfl, e2, rfl, rfl⟩ := p
    have : m2 = [] := by
      have h1 := congrArg List.length e2
      simp at h1
      exact h1
    subst this
    simpa using he
theorem wpLc_filL {α : Type} {g : DG} {tt : DT} {te : DE} {vs : List Nat} {Q : List D → Env → Prop} (l : List α) (f h : α → D) (p : α → Bool) {ρ0 : Env} (hl : l.length < 16777216) (hw : wipeD ρ0 vs = ρ0)
    (hs : ∀ x, x ∈ l → ∀ (K : D → Env → Prop) (N : Env → Prop), (p x = true → ∀ ρ3, wipeD ρ3 vs = ρ0 → K (h x) ρ3) → (p x = false → ∀ ρ3, wipeD ρ3 vs = ρ0 → N ρ3) → g (f x) ρ0 fun ρ1 => tt ρ1 fun b ρ2 => if b = true then te ρ2 fun y ρ3 => K y ρ3 else N ρ2)
    (he : Q ((l.filter p).map h) ρ0) : wpLc g tt te vs Q (l.map f) [] ρ0 := by
  refine wpLc_cps (fun done acc ρ => ∃ l1 l2, l = l1 ++ l2 ∧ done = l1.map f ∧ acc = (l1.filter p).map h ∧ ρ = ρ0) ⟨[], l, rfl, rfl, rfl, rfl⟩ (fun done d rest acc ρ K e q k => ?_) (fun acc ρ q => ?_)
  · obtain ⟨l1, x, l2, rfl, rfl, rfl, rfl⟩ := map_split e
    obtain ⟨m1, m2, e1, e2, rfl, rfl⟩ := q
    have e3 : m1 = l1 := by
      have h1 := congrArg List.length e2
      simp at h1
      have h2 := congrArg (List.take m1.length) e1
      rw [List.take_left, h1.symm, List.take_left] at h2
      exact h2.symm
    subst e3
    refine ⟨?_, ?_⟩
    · have h1 := List.length_filter_le p m1
      simp at hl ⊢
      omega
    · rw [hw]
      refine hs x (by simp) (fun y ρ3 => K ((m1.filter p).map h ++ [y]) (wipeD ρ3 vs)) (fun ρ2 => K ((m1.filter p).map h) (wipeD ρ2 vs)) (fun hp ρ3 w => ?_) (fun hp ρ3 w => ?_)
      · rw [w]; exact k _ _ ⟨m1 ++ [x], l2, by simp, by simp, by rw [List.filter_append, List.filter_cons_of_pos hp]; simp, rfl⟩
      · rw [w]; exact k _ _ ⟨m1 ++ [x], l2, by simp, by simp, by rw [List.filter_append, List.filter_cons_of_neg (by simp [hp])]; simp, rfl⟩
  · obtain ⟨m1, m2, rfl, e2, rfl, rfl⟩ := q
    have : m2 = [] := by
      have h1 := congrArg List.length e2
      simp at h1
      exact h1
    subst this
    simpa using he
/-- a search over a list that is made of another one -/
theorem wpFor_fs {α : Type} {g : DG} {body : DS} {N bk ct : Env → Prop} {Q : D → Prop} (l : List α) (it : α → D) (f : α → Option D) {ρ0 : Env} (I : Env → Prop) (h0 : I ρ0)
    (hs : ∀ x, x ∈ l → ∀ (ρ : Env) (K B : Env → Prop), I ρ → (∀ v, f x = some v → Q v) → (f x = none → ∀ ρ', I ρ' → K ρ') → g (it x) ρ fun ρ1 => body { nx := K, ct := K, bk := B, rt := fun d _ => Q d } ρ1)
    (hf : ∀ v, l.findSome? f = some v → Q v) (hn : l.findSome? f = none → ∀ ρ, I ρ → N ρ) : wpFor g body { nx := N, rt := fun d _ => Q d, bk := bk, ct := ct } (l.map it) ρ0 := by
  induction l generalizing ρ0 with
  | nil => exact hn rfl ρ0 h0
  | cons d ds ih =>
    refine hs d List.mem_cons_self ρ0 _ _ h0 (fun v e => hf v ?_) (fun e ρ' i => ih i (fun d hd => hs d (List.mem_cons_of_mem _ hd)) (fun v h => hf v ?_) fun h => hn ?_)
    · rw [List.findSome?_cons, e]
    · rw [List.findSome?_cons, e]; exact h
    · rw [List.findSome?_cons, e]; exact h
theorem fs_find {α β : Type} (p : α → Bool) (r : α → β) : ∀ l : List α, l.findSome? (fun x => if p x = true then some (r x) else none) = (l.find? p).map r
  | [] => rfl
  | x :: l => by
    rw [List.findSome?_cons, List.find?_cons]
    cases h : p x
    · simp [fs_find p r l]
    · simp
theorem dLen_tR {rs : List (List Int)} {Q : D → Prop} : dLen [tR rs] Q = Q (.int rs.length) := by show Q _ = _; simp
theorem dLen_tI {rs : List Int} {Q : D → Prop} : dLen [tI rs] Q = Q (.int rs.length) := by show Q _ = _; simp
theorem dLen_tup {xs : List D} {Q : D → Prop} : dLen [.tuple xs] Q = Q (.int xs.length) := rfl
theorem dLen_lst {xs : List D} {Q : D → Prop} : dLen [.list xs] Q = Q (.int xs.length) := rfl
theorem seq_tup {xs : List D} : seqD (.tuple xs) = some xs := rfl
theorem seq_lst {xs : List D} : seqD (.list xs) = some xs := rfl
theorem tI_def (xs : List Int) : (PyData.tuple (xs.map PyData.int)) = tI xs := rfl
/-- enumerate of a made list -/
theorem enD_map {α : Type} (l : List α) (f : α → D) (d : α) : enD (l.map f) = (rgI l.length).map fun k => .tuple [.int k, f (l.getD k.toNat d)] := by
  apply List.ext_getElem?
  intro i
  by_cases h : i < l.length
  · unfold enD
    rw [List.getElem?_zipWith, List.getElem?_map, List.getElem?_map, rgI_get h, List.length_map, List.getElem?_range h]
    simp [h, List.getD]
  · rw [List.getElem?_eq_none_iff.mpr (by rw [enD_len]; simp; omega), List.getElem?_eq_none_iff.mpr (by simp [rgI_len]; omega)]
end Dn
set_option Elab.async false
set_option linter.all false
set_option maxRecDepth 100000
set_option autoImplicit false
set_option maxHeartbeats 4000000
/-! dicts that a frame owns: {}, x[k] = e, x[k], k in x, k not in x -/
namespace Dn
open PySem L2 Evl PySem.Spec PyProof.Rows
def keyD : D → Option Key
  | .int i => some (.inl i)
  | .str s => some (.inr s)
  | _ => none
theorem keyD_rp {K : PySem.W.Frag} {G : Hp} {v : V} {d : D} {k : Key} (r : Rp K G v d) (h : keyD d = some k) : v = kV k := by
  cases r <;> first | (cases h; rfl) | (exact nomatch h)
def valD (kvs : List (Key × D)) (k : Key) : Option D := (kvs.find? fun kv => decide (kv.1 = k)).map (·.2)
def putD (kvs : List (Key × D)) (k : Key) (d : D) : List (Key × D) :=
  if (kvs.any fun kv => decide (kv.1 = k)) = true then kvs.map (fun kv => if kv.1 = k then (kv.1, d) else kv) else kvs ++ [(k, d)]
abbrev KvRp (K : PySem.W.Frag) (G : Hp) (kvs : List (Key × D)) (kws : List (Key × V)) : Prop := Paired (fun (p : Key × D) (q : Key × V) => p.1 = q.1 ∧ Rp K G q.2 p.2) kvs kws
theorem KvRp.mono {K : PySem.W.Frag} {G G' : Hp} (e : Ex G G') {kvs : List (Key × D)} {kws : List (Key × V)} (h : KvRp K G kvs kws) : KvRp K G' kvs kws := Paired.mapP h fun _ _ q => ⟨q.1, q.2.mono e⟩
theorem KvRp.len {K : PySem.W.Frag} {G : Hp} {kvs : List (Key × D)} {kws : List (Key × V)} (h : KvRp K G kvs kws) : kvs.length = kws.length := by
  induction h with
  | nil => rfl
  | cons _ _ ih => simp [ih]
theorem KvRp.val {K : PySem.W.Frag} {G : Hp} {kvs : List (Key × D)} {kws : List (Key × V)} (h : KvRp K G kvs kws) (k : Key) : (valD kvs k = none ∧ valV kws k = none) ∨ ∃ d v, valD kvs k = some d ∧ valV kws k = some v ∧ Rp K G v d := by
  induction h with
  | nil => exact .inl ⟨rfl, rfl⟩
  | @cons p q ps qs r t ih =>
    unfold valD valV at ih ⊢
    rw [List.find?_cons, List.find?_cons]
    by_cases z : p.1 = k
    · have z2 : q.1 = k := by rw [← r.1]; exact z
      simp only [z, z2, decide_true, Option.map_some]
      exact .inr ⟨_, _, rfl, rfl, r.2⟩
    · have z2 : ¬ q.1 = k := by rw [← r.1]; exact z
      simp only [z, z2, decide_false]
      exact ih
theorem KvRp.any {K : PySem.W.Frag} {G : Hp} {kvs : List (Key × D)} {kws : List (Key × V)} (h : KvRp K G kvs kws) (k : Key) : (kvs.any fun kv => decide (kv.1 = k)) = (kws.any fun kv => decide (kv.1 = k)) := by
  induction h with
  | nil => rfl
  | @cons p q ps qs r t ih => simp only [List.any_cons, ih, r.1]
theorem KvRp.rep {K : PySem.W.Frag} {G : Hp} {kvs : List (Key × D)} {kws : List (Key × V)} (h : KvRp K G kvs kws) (k : Key) {v : V} {d : D} (r : Rp K G v d) : KvRp K G (kvs.map fun kv => if kv.1 = k then (kv.1, d) else kv) (kws.map fun kv => if kv.1 = k then (kv.1, v) else kv) := by
  induction h with
  | nil => exact .nil
  | @cons p q ps qs s t ih =>
    rw [List.map_cons, List.map_cons]
    refine .cons ?_ ih
    by_cases z : p.1 = k
    · have z2 : q.1 = k := by rw [← s.1]; exact z
      rw [if_pos z, if_pos z2]
      exact ⟨s.1, r⟩
    · have z2 : ¬ q.1 = k := by rw [← s.1]; exact z
      rw [if_neg z, if_neg z2]
      exact s
theorem KvRp.add {K : PySem.W.Frag} {G : Hp} {kvs : List (Key × D)} {kws : List (Key × V)} (h : KvRp K G kvs kws) (k : Key) {v : V} {d : D} (r : Rp K G v d) : KvRp K G (kvs ++ [(k, d)]) (kws ++ [(k, v)]) := by
  induction h with
  | nil => exact .cons ⟨rfl, r⟩ .nil
  | cons s t ih => exact .cons s ih
theorem KvRp.put {K : PySem.W.Frag} {G : Hp} {kvs : List (Key × D)} {kws : List (Key × V)} (h : KvRp K G kvs kws) (k : Key) {v : V} {d : D} (r : Rp K G v d) : KvRp K G (putD kvs k d) (putK kws k v) := by
  unfold putD putK
  rw [h.any k]
  split
  · exact h.rep k r
  · exact h.add k r
/-- what stands in slot i, if it is an owned dict -/
def atK (ρ : Env) (i : Nat) : Option (List (Key × D)) := match ρ[i]? with
  | some (some (.ow (.dct kvs))) => some kvs
  | _ => none
theorem atK_some {ρ : Env} {i : Nat} {kvs : List (Key × D)} (h : atK ρ i = some kvs) : ρ[i]? = some (some (SV.ow (.dct kvs))) := by
  unfold atK at h
  split at h
  · cases h; assumption
  · cases h
theorem RS.atK {K : PySem.W.Frag} {T : Addr → Prop} {ρ : Env} {σ : L2.St} {H : Hp} {i : Nat} {kvs : List (Key × D)} (r : RS K T ρ σ H) (h : Dn.atK ρ i = some kvs) : ∃ q kws, ρ[i]? = some (some (SV.ow (.dct kvs))) ∧ σ[i]? = some (some (V.ref q)) ∧ H q = some (.dK kws) ∧ KvRp K (hide (Hd T ρ σ) H) kvs kws := by
  have hm := atK_some h
  obtain ⟨q, o, h1, h2, h3⟩ := r.ow i _ hm
  cases o with
  | dK kws => exact ⟨q, kws, hm, h1, h2, h3⟩
  | _ => exact h3.elim
section
variable {X : Cx} {a b c e : Expr} {fa fb fc : DE} {pos p : Pos} {es : List Expr} {x y : Str}
/-- x[k], x an owned dict -/
def dGetK (i : Nat) (fb : DE) : DE := fun ρ Q => (atK ρ i).isSome = true ∧ fb ρ fun y ρ1 => ∃ kvs k d, atK ρ1 i = some kvs ∧ keyD y = some k ∧ valD kvs k = some d ∧ Q d ρ1
theorem je_getK {i : Nat} {px : Pos} (hu : X.A.units + 1 < cLine) (hN : X.N[i]? = some x) (hv : Vis X.env.scope x) (hb : JE X b fb) (hs : NoSl b := by exact fun _ _ => rfl) (hd : (x == ("__debug__" : Str)) = false := by decide) (hcd : (x == ("__classdict__" : Str)) = false := by decide) :
    JE X (.Subscript (.Name x px) b pos) (dGetK i fb) := by
  obtain ⟨tb, pb, kb⟩ := hb.ex
  refine ⟨_, pe_dget hu (pe_var hN hv hd hcd) pb hs, fun T ρ σ H QD Q r h q => ?_⟩
  obtain ⟨h0, h⟩ := h
  obtain ⟨ds0, h0⟩ := Option.isSome_iff_exists.mp h0
  obtain ⟨l, kws, _, hl, _, _⟩ := r.atK h0
  refine ⟨_, hl, kb T ρ σ H _ _ r h fun y ρ1 v H1 r1 p1 v1 h => ?_⟩
  obtain ⟨kvs, k, d, h1, hk, h2, h3⟩ := h
  obtain ⟨l', kws', _, hl', ho', hr'⟩ := r1.atK h1
  rw [hl] at hl'; cases hl'
  obtain rfl := keyD_rp v1 hk
  rcases hr'.val k with ⟨z, _⟩ | ⟨d', u, z, z2, z3⟩
  · rw [z] at h2; cases h2
  · rw [z] at h2; cases h2
    have g := DGet.k (k := k) ho'
    rw [z2] at g
    exact ⟨_, _, rfl, g, q _ _ _ _ r1 p1 z3 h3⟩
/-- k in x, k not in x, x an owned dict -/
def dInK (neg : Bool) (i : Nat) (fb : DE) : DE := fun ρ Q => fb ρ fun y ρ1 => ∃ kvs k, atK ρ1 i = some kvs ∧ keyD y = some k ∧ Q (.bool (if neg then !(valD kvs k).isSome else (valD kvs k).isSome)) ρ1
theorem je_inK {i : Nat} {px : Pos} (hu : X.A.units + 1 < cLine) (hN : X.N[i]? = some x) (hv : Vis X.env.scope x) (hb : JE X b fb) (hm : behindInMarks .In (.Name x px) = false) (hd : (x == ("__debug__" : Str)) = false := by decide) (hcd : (x == ("__classdict__" : Str)) = false := by decide) :
    JE X (.Compare b [.In] [.Name x px] pos) (dInK false i fb) := by
  obtain ⟨tb, pb, kb⟩ := hb.ex
  refine ⟨_, pe_cmp (pc_din hu pb (pe_var hN hv hd hcd)) hm, fun T ρ σ H QD Q r h q => kb T ρ σ H _ _ r h fun y ρ1 v H1 r1 p1 v1 h => ?_⟩
  obtain ⟨kvs, k, h1, hk, h3⟩ := h
  obtain ⟨l', kws', _, hl', ho', hr'⟩ := r1.atK h1
  obtain rfl := keyD_rp v1 hk
  refine ⟨_, hl', l', _, rfl, DGet.k (k := k) ho', q _ _ _ _ r1 p1 (.bl _) ?_⟩
  rcases hr'.val k with ⟨z, z2⟩ | ⟨d', u, z, z2, z3⟩
  · rw [z2]; rw [z] at h3; exact h3
  · rw [z2]; rw [z] at h3; exact h3
theorem je_notinK {i : Nat} {px : Pos} (hu : X.A.units + 1 < cLine) (hN : X.N[i]? = some x) (hv : Vis X.env.scope x) (hb : JE X b fb) (hm : behindInMarks .NotIn (.Name x px) = false) (hd : (x == ("__debug__" : Str)) = false := by decide) (hcd : (x == ("__classdict__" : Str)) = false := by decide) :
    JE X (.Compare b [.NotIn] [.Name x px] pos) (dInK true i fb) := by
  obtain ⟨tb, pb, kb⟩ := hb.ex
  refine ⟨_, pe_cmp (pc_dnotin hu pb (pe_var hN hv hd hcd)) hm, fun T ρ σ H QD Q r h q => kb T ρ σ H _ _ r h fun y ρ1 v H1 r1 p1 v1 h => ?_⟩
  obtain ⟨kvs, k, h1, hk, h3⟩ := h
  obtain ⟨l', kws', _, hl', ho', hr'⟩ := r1.atK h1
  obtain rfl := keyD_rp v1 hk
  refine ⟨_, hl', l', _, rfl, DGet.k (k := k) ho', q _ _ _ _ r1 p1 (.bl _) ?_⟩
  rcases hr'.val k with ⟨z, z2⟩ | ⟨d', u, z, z2, z3⟩
  · rw [z2]; rw [z] at h3; exact h3
  · rw [z2]; rw [z] at h3; exact h3
/-- x[k] = e, x an owned dict -/
def sPutK (i : Nat) (fi fe : DE) : DS := fun E ρ => fe ρ fun d ρ1 => (atK ρ1 i).isSome = true ∧ fi ρ1 fun y ρ2 => ∃ kvs k, atK ρ2 i = some kvs ∧ keyD y = some k ∧ kvs.length < sizeLine ∧ E.nx (ρ2.set i (some (.ow (.dct (putD kvs k d)))))
theorem js_putK {i : Nat} {px ps : Pos} {f1 f2 : DE} (hu : X.A.units + 1 < cLine) (hN : X.N[i]? = some x) (hv : Vis X.env.scope x) (hi : JE X b f1) (he : JE X e f2) (hd : (x == ("__debug__" : Str)) = false := by decide) (hcd : (x == ("__classdict__" : Str)) = false := by decide)
    (hs : swapsWith e (some (.Subscript (.Name x px) b ps)) pos.line X.env = pure false := by rfl) :
    JS X (.Assign [.Subscript (.Name x px) b ps] e pos) (sPutK i f1 f2) := by
  obtain ⟨t1, p1, k1⟩ := hi.ex
  obtain ⟨t2, p2, k2⟩ := he.ex
  refine ⟨_, ps_dput hu (pe_var hN hv hd hcd) p1 p2 hs, fun T ρ σ H E D r h k => k2 T ρ σ H _ _ r h fun d ρ1 v H1 r1 q1 v1 h => ?_⟩
  obtain ⟨h0, h⟩ := h
  obtain ⟨ds0, h0⟩ := Option.isSome_iff_exists.mp h0
  obtain ⟨l, kws, _, hl, _, _⟩ := r1.atK h0
  refine ⟨_, hl, k1 T ρ1 σ H1 _ _ r1 h fun kk ρ2 w H2 r2 q2 v2 h => ?_⟩
  obtain ⟨kvs, ky, h2, hk, h3, h4⟩ := h
  obtain ⟨l', kws', hm', hl', ho', hr'⟩ := r2.atK h2
  rw [hl] at hl'; cases hl'
  obtain rfl := keyD_rp v2 hk
  have hp : RpO X.K (hide (Hd T ρ2 σ) H2) (.dct (putD kvs ky d)) (.dK (putK kws' ky v)) := hr'.put ky (v1.mono q2.fz)
  have r3 := r2.write hm' hl hp (fun _ _ z => nomatch z)
  exact ⟨l, _, rfl, DPut.k ho' (by rw [← hr'.len]; exact h3), k.nx _ _ _ r3 ((q1.trans q2).trans (.write hm' hl)) h4⟩
/-- {} as a dict that the frame owns -/
def xDct : DX := fun ρ Q => Q (.ow (.dct [])) ρ
theorem jx_dct0 : JX X (.Dict [] [] pos) xDct := by
  refine ⟨_, pe_dnewK, fun T ρ σ H QD Q r h q p hp => ?_⟩
  exact q (SV.ow (.dct [])) ρ _ _ ⟨p, .dK [], rfl, hp, upd_same, r.laid hp, (Paired.nil : KvRp X.K _ [] []), fun _ _ z => nomatch z⟩ (.grow (Ex.new hp)) h
theorem hu1 {n : Nat} (h : n + 64 < cLine) : n + 1 < cLine := by omega
theorem jt_inK {i : Nat} {px : Pos} (hu : X.A.units + 1 < cLine) (hN : X.N[i]? = some x) (hv : Vis X.env.scope x) (hb : JE X b fb) (hm : behindInMarks .In (.Name x px) = false) (hd : (x == ("__debug__" : Str)) = false := by decide) (hcd : (x == ("__classdict__" : Str)) = false := by decide) :
    JT X (.Compare b [.In] [.Name x px] pos) (dTst (dInK false i fb)) := by
  obtain ⟨tb, pb, kb⟩ := hb.ex
  refine ⟨_, pt_cmp (pc_din hu pb (pe_var hN hv hd hcd)) hm, fun T ρ σ H QD Q r h q => kb T ρ σ H _ _ r h fun y ρ1 v H1 r1 p1 v1 h => ?_⟩
  obtain ⟨kvs, k, h1, hk, h3⟩ := h
  obtain ⟨l', kws', _, hl', ho', hr'⟩ := r1.atK h1
  obtain rfl := keyD_rp v1 hk
  refine ⟨_, hl', l', _, rfl, DGet.k (k := k) ho', ?_⟩
  refine ⟨_, rfl, q _ _ _ r1 p1 ?_⟩
  rcases hr'.val k with ⟨z, z2⟩ | ⟨d', u, z, z2, z3⟩
  · rw [z2]; rw [z] at h3; exact h3
  · rw [z2]; rw [z] at h3; exact h3
theorem jt_notinK {i : Nat} {px : Pos} (hu : X.A.units + 1 < cLine) (hN : X.N[i]? = some x) (hv : Vis X.env.scope x) (hb : JE X b fb) (hm : behindInMarks .NotIn (.Name x px) = false) (hd : (x == ("__debug__" : Str)) = false := by decide) (hcd : (x == ("__classdict__" : Str)) = false := by decide) :
    JT X (.Compare b [.NotIn] [.Name x px] pos) (dTst (dInK true i fb)) := by
  obtain ⟨tb, pb, kb⟩ := hb.ex
  refine ⟨_, pt_cmp (pc_dnotin hu pb (pe_var hN hv hd hcd)) hm, fun T ρ σ H QD Q r h q => kb T ρ σ H _ _ r h fun y ρ1 v H1 r1 p1 v1 h => ?_⟩
  obtain ⟨kvs, k, h1, hk, h3⟩ := h
  obtain ⟨l', kws', _, hl', ho', hr'⟩ := r1.atK h1
  obtain rfl := keyD_rp v1 hk
  refine ⟨_, hl', l', _, rfl, DGet.k (k := k) ho', ?_⟩
  refine ⟨_, rfl, q _ _ _ r1 p1 ?_⟩
  rcases hr'.val k with ⟨z, z2⟩ | ⟨d', u, z, z2, z3⟩
  · rw [z2]; rw [z] at h3; exact h3
  · rw [z2]; rw [z] at h3; exact h3
theorem js_augI {i : Nat} {px : Pos} (hN : X.N.Nodup) (hi : X.N[i]? = some x) (hx : Loc X.env.scope x) (he : JE X e fa) (hf : X.fn x = true ∨ X.env.scope.names.lookup x = some .local := by first | exact Or.inl rfl | exact Or.inr rfl) :
    JS X (.AugAssign (.Name x px) .Add e pos) (sAugI i fa) := by
  obtain ⟨t, pt, kt⟩ := he.ex
  refine ⟨_, ps_aug hN hi hx pt ip_add hf, fun T ρ σ H E D r h k => ?_⟩
  unfold sAugI at h
  split at h
  · rename_i n hn
    obtain ⟨v, hv, rv⟩ := r.im i _ hn
    cases rv
    refine ⟨_, hv, kt T ρ σ H _ _ r h fun d ρ1 v H1 r1 p1 v1 h => ?_⟩
    split at h
    · cases v1
      exact ⟨_, _, rfl, rfl, k.nx _ _ _ (r1.setIm (.int _)) (p1.trans Po.setIm) h⟩
    · exact h.elim
  · exact h.elim
end
end Dn
set_option Elab.async false
set_option linter.all false
set_option maxRecDepth 100000
set_option autoImplicit false
set_option maxHeartbeats 4000000
/-! targets that change an owned list: x[i], x[j] = a, b -/
namespace Dn
open PySem L2 Evl PySem.Spec PyProof.Rows
section
variable {X : Cx} {a b c e : Expr} {es : List Expr} {fa fb fc : DE} {pos p : Pos} {x y : Str}
structure JGW (X : Cx) (tg : Expr) (g : DG) : Prop where
  ex : ∃ t, PG X tg t ∧ ∀ (T : Addr → Prop) (ρ : Env) (σ : L2.St) (H : Hp) (v : V) (d : D) (QD : Env → Prop) (Q : L2.St → Hp → Prop), RS X.K T ρ σ H → Rp X.K (hide (Hd T ρ σ) H) v d → g d ρ QD →
    (∀ ρ' σ' H', RS X.K T ρ' σ' H' → Po ρ σ H ρ' σ' H' → QD ρ' → Q σ' H') → t v σ H Q
structure JGWs (X : Cx) (tgs : List Expr) (g : List D → Env → (Env → Prop) → Prop) : Prop where
  ex : ∃ t, PGs X tgs t ∧ ∀ (T : Addr → Prop) (ρ : Env) (σ : L2.St) (H : Hp) (us : List V) (ds : List D) (QD : Env → Prop) (Q : L2.St → Hp → Prop), RS X.K T ρ σ H → RpAll X.K (hide (Hd T ρ σ) H) us ds → g ds ρ QD →
    (∀ ρ' σ' H', RS X.K T ρ' σ' H' → Po ρ σ H ρ' σ' H' → QD ρ' → Q σ' H') → t us σ H Q
def gSubW (i : Nat) (fi : DE) : DG := fun d ρ Q => (atO ρ i).isSome = true ∧ fi ρ fun k ρ2 => ∃ ds j m, atO ρ2 i = some ds ∧ k = .int j ∧ ixN ds.length j = some m ∧ Q (setO ρ2 i (ds.set m d))
theorem jgw_sub {i : Nat} {px ps : Pos} {f1 : DE} (hN : X.N[i]? = some x) (hv : Vis X.env.scope x) (hi : JE X b f1) (hd : (x == ("__debug__" : Str)) = false := by decide) (hcd : (x == ("__classdict__" : Str)) = false := by decide)
    (ha : ∀ v, assign (.Subscript (.Name x px) b ps) X.env v = (do
      let ov ← holding [v] (eval (.Name x px) X.env); let iv ← holding [v, ov] (eval b X.env); standAt ps; holding [v, ov, iv] (setItem ov iv v); release [v, ov, iv] []) := by intro _; rfl) : JGW X (.Subscript (.Name x px) b ps) (gSubW i f1) := by
  obtain ⟨t1, p1, k1⟩ := hi.ex
  refine ⟨_, pg_sub (pe_var hN hv hd hcd) p1 set_list ha, fun T ρ σ H v d QD Q r rv h q => ?_⟩
  obtain ⟨h0, h⟩ := h
  obtain ⟨ds0, h0⟩ := Option.isSome_iff_exists.mp h0
  obtain ⟨m, l, vs, _, hl, _, _⟩ := r.atO h0
  refine ⟨_, hl, k1 T ρ σ H _ _ r h fun kk ρ2 w H2 r2 q2 v2 h => ?_⟩
  obtain ⟨ds, j, n, h2, rfl, h3, h4⟩ := h
  obtain ⟨m', l', vs', hm', hl', ho', hr'⟩ := r2.atO h2
  rw [hl] at hl'; cases hl'
  cases v2
  obtain ⟨r3, q3⟩ := r2.setO hm' hl (hr'.set n (rv.mono q2.fz))
  exact ⟨l, vs', j, n, rfl, rfl, ho', by rw [hr'.length]; exact h3, q _ _ _ r3 (q2.trans q3) h4⟩
theorem jgws_nil : JGWs X [] gsNil := ⟨gNil, pgs_nil, fun T ρ σ H us ds QD Q r rv h q => by
  obtain ⟨rfl, h⟩ := h
  cases rv
  exact ⟨rfl, q _ _ _ r .refl h⟩⟩
theorem jgws_cons {g : DG} {gs : List D → Env → (Env → Prop) → Prop} (h1 : JGW X e g) (h2 : JGWs X es gs) (hs : (assignEach (e :: es) X.env).map (·.2) = assign e X.env :: (assignEach es X.env).map (·.2) := by rfl) : JGWs X (e :: es) (gsCons g gs) := by
  obtain ⟨t1, p1, k1⟩ := h1.ex
  obtain ⟨t2, p2, k2⟩ := h2.ex
  refine ⟨_, pgs_cons p1 p2 hs, fun T ρ σ H us ds QD Q r rv h q => ?_⟩
  cases rv with
  | nil => exact False.elim h
  | cons rv rr => exact ⟨_, _, rfl, k1 T ρ σ H _ _ _ _ r rv h fun ρ1 σ1 H1 r1 q1 h => k2 T ρ1 σ1 H1 _ _ _ _ r1 (rr.mono q1.fz) h fun ρ2 σ2 H2 r2 q2 h => q _ _ _ r2 (q1.trans q2) h⟩
theorem jgw_tup {k n : Nat} {gs : List D → Env → (Env → Prop) → Prop} (hc : X.calm = true) (h : JGWs X es gs) (hn : (assignEach es X.env).length = n := by rfl) (hst : (assignEach es X.env).findIdx? (·.1) = none := by rfl) : JGW X (.Tuple es k pos) (gTp n gs) := by
  obtain ⟨t, pt, kt⟩ := h.ex
  refine ⟨_, pg_tup hc pt hn hst, fun T ρ σ H v d QD Q r rv h q => ?_⟩
  cases rv with
  | tup hp rr => exact ⟨_, _, rfl, sqt_of hp, by rw [rr.length]; exact h.1, kt T ρ σ H _ _ _ _ r rr h.2 q⟩
  | _ => exact False.elim h
theorem js_asgW {tg : Expr} {g : DG} (ha : JE X e fa) (hg : JGW X tg g) (hs : swapsWithSole [tg] e pos.line X.env = pure false := by rfl) (hw : swappedStores [tg] e X.env = pure none := by rfl) (h1 : (assignEach [tg] X.env).map (·.2) = [assign tg X.env] := by rfl) : JS X (.Assign [tg] e pos) (sAsg fa g) := by
  obtain ⟨t, pt, kt⟩ := ha.ex
  obtain ⟨t2, p2, k2⟩ := hg.ex
  refine ⟨_, ps_asg pt p2 hs hw h1, fun T ρ σ H E D r h k => kt T ρ σ H _ _ r h fun d ρ1 v H1 r1 q1 v1 h => k2 T ρ1 σ H1 _ _ _ _ r1 v1 h fun ρ2 σ2 H2 r2 q2 h => k.nx _ _ _ r2 (q1.trans q2) h⟩
end
end Dn
set_option Elab.async false
set_option linter.all false
set_option maxRecDepth 100000
set_option autoImplicit false
set_option maxHeartbeats 4000000
/-! dicts as values: handed back, handed in, looked up; list(d), sorted, len(set(t)), t[::-1], t * n -/
namespace Dn
open PySem L2 Evl PySem.Spec PyProof.Rows
theorem RpKv.kv {K : PySem.W.Frag} {G : Hp} : ∀ {kws : List (Key × V)} {kvs : List (Key × D)}, RpKv K G kws kvs → KvRp K G kvs kws
  | _, _, .nil => .nil
  | _, _, .cons h r => .cons ⟨rfl, h⟩ r.kv
theorem KvRp.rp {K : PySem.W.Frag} {G : Hp} {kvs : List (Key × D)} {kws : List (Key × V)} (h : KvRp K G kvs kws) : RpKv K G kws kvs := by
  induction h with
  | nil => exact .nil
  | @cons p q ps qs r t ih =>
    obtain ⟨k, d⟩ := p
    obtain ⟨k2, v⟩ := q
    obtain ⟨r1, r2⟩ := r
    cases r1
    exact .cons r2 ih
theorem keyB_inj {k k' : Key} (h : keyB k = keyB k') : k = k' := by
  cases k <;> cases k' <;> simp [keyB] at h <;> rw [h]
theorem dkD_inj : ∀ {kvs kvs' : List (Key × D)}, dkD kvs = dkD kvs' → kvs = kvs'
  | [], [], _ => rfl
  | [], _ :: _, h => by simp [dkD] at h
  | _ :: _, [], h => by simp [dkD] at h
  | (k, d) :: r, (k', d') :: r', h => by
    simp only [dkD, List.map_cons, List.cons.injEq, Prod.mk.injEq] at h
    obtain ⟨⟨h1, h2⟩, h3⟩ := h
    rw [keyB_inj h1, h2, dkD_inj (kvs := r) (kvs' := r') h3]
theorem dict_rp {K : PySem.W.Frag} {G : Hp} {v : V} {kvs : List (Key × D)} (r : Rp K G v (.dict (dkD kvs))) : ∃ p kws, v = .ref p ∧ G p = some (.dK kws) ∧ KvRp K G kvs kws := by
  generalize e : PyData.dict (dkD kvs) = d at r
  cases r with
  | dct h1 h2 h3 =>
    cases e
    obtain rfl := dkD_inj h3
    exact ⟨_, _, rfl, h1, h2.kv⟩
  | frz h1 h2 =>
    simp only [PyData.dict.injEq] at e
    cases kvs with
    | nil => simp [dkD] at e
    | cons p r => obtain ⟨k, d⟩ := p; cases k <;> simp [dkD, keyB] at e
  | _ => cases e
section
variable {K : PySem.W.Frag} {T : Addr → Prop} {ρ : Env} {σ : L2.St} {H : Hp}
/-- an owned dict is kept no longer -/
theorem RS.freezeK {i : Nat} {kvs : List (Key × D)} (r : RS K T ρ σ H) (hm : ρ[i]? = some (some (SV.ow (.dct kvs)))) : RS K T (ρ.set i (some (SV.im (.dict (dkD kvs))))) σ H := by
  obtain ⟨p, o, hp, ho, hr⟩ := r.ow i _ hm
  have hO : Own ρ σ p := ⟨i, _, hm, hp⟩
  have e : Ex (hide (Hd T ρ σ) H) (hide (Hd T (ρ.set i (some (SV.im (.dict (dkD kvs))))) σ) H) := hide_sub fun a w => w.elim .inl fun w => .inr (own_freeze w)
  have vis : hide (Hd T (ρ.set i (some (SV.im (.dict (dkD kvs))))) σ) H p = some o := hide_some.2 ⟨fun w => by
    rcases w with w | ⟨j, m, h1, h2⟩
    · exact r.dis p w hO
    · rcases getset h1 with ⟨_, _, h⟩ | ⟨ne, h⟩
      · cases h
      · exact ne (r.inj i j _ m p hm h hp h2), ho⟩
  refine ⟨by simp [r.len], fun j d' q => ?_, fun j m1 q => ?_, fun j k m1 m2 a q1 q2 q3 q4 => ?_, fun a t w => r.dis a t (own_freeze w), r.dom, fun j q m1 a q1 q2 => ?_⟩
  · rcases getset q with ⟨e1, l, h1⟩ | ⟨ne, h1⟩
    · cases h1; subst e1
      cases o with
      | dK vs => exact ⟨.ref p, hp, .dct vis (KvRp.rp (KvRp.mono e hr)) rfl⟩
      | _ => exact False.elim hr
    · obtain ⟨u, h2, h3⟩ := r.im j d' h1
      exact ⟨u, h2, h3.mono e⟩
  · rcases getset q with ⟨_, _, h1⟩ | ⟨ne, h1⟩
    · cases h1
    · obtain ⟨a, u, h2, h3, h4⟩ := r.ow j m1 h1
      exact ⟨a, u, h2, h3, h4.mono e⟩
  · rcases getset q1 with ⟨_, _, h1⟩ | ⟨_, h1⟩
    · cases h1
    · rcases getset q2 with ⟨_, _, h2⟩ | ⟨_, h2⟩
      · cases h2
      · exact r.inj j k m1 m2 a h1 h2 q3 q4
  · rcases getset q1 with ⟨_, _, h1⟩ | ⟨_, h1⟩
    · cases h1
    · exact r.tag j q m1 a h1 q2
end
section
variable {X : Cx} {a b c e : Expr} {fa fb fc : DE} {pos p : Pos} {es : List Expr} {x y : Str}
/-- return x, x an owned dict -/
def sRetK (i : Nat) : DS := fun E ρ => ∃ kvs, atK ρ i = some kvs ∧ E.rt (.dict (dkD kvs)) (ρ.set i (some (.im (.dict (dkD kvs)))))
theorem js_retK {i : Nat} {px : Pos} (hN : X.N[i]? = some x) (hv : Vis X.env.scope x) (hd : (x == ("__debug__" : Str)) = false := by decide) (hcd : (x == ("__classdict__" : Str)) = false := by decide) : JS X (.Return (some (.Name x px)) pos) (sRetK i) := by
  refine ⟨_, ps_ret (pe_var hN hv hd hcd), fun T ρ σ H E D r h k => ?_⟩
  obtain ⟨kvs, h1, h2⟩ := h
  have hm := atK_some h1
  have rf := r.freezeK hm
  obtain ⟨v, hv, rv⟩ := rf.im i _ (List.getElem?_set_self (List.getElem?_eq_some_iff.mp hm).1)
  exact ⟨v, hv, k.rt _ _ _ _ _ rf .freeze rv h2⟩
/-- {k: v} as a dict that the frame owns -/
def xDct1 (fk fv : DE) : DX := fun ρ Q => fk ρ fun y ρ1 => fv ρ1 fun d ρ2 => ∃ k, keyD y = some k ∧ Q (.ow (.dct [(k, d)])) ρ2
theorem jx_dct1 {k v : Expr} {fk fv : DE} (hk : JE X k fk) (hv : JE X v fv) : JX X (.Dict [some k] [v] pos) (xDct1 fk fv) := by
  obtain ⟨tk, pk, kk⟩ := hk.ex
  obtain ⟨tv, pv, kv⟩ := hv.ex
  refine ⟨_, pe_disp (pps_cons pk pv pps_nil) rfl rfl (by simp) (by simp), fun T ρ σ H QD Q r h q p hp => ?_⟩
  have r0 := r.laid (o := .dK []) hp
  refine kk (plus T p) ρ σ _ _ _ r0 h fun y ρ1 vk H1 r1 p1 v1 h => kv (plus T p) ρ1 σ H1 _ _ r1 h fun d ρ2 vv H2 r2 p2 v2 h => ?_
  obtain ⟨k, hk, h⟩ := h
  obtain rfl := keyD_rp v1 hk
  have q0 : (upd H p (.dK [])) p = some (.dK []) := upd_same
  have n0 : ¬ Own ρ σ p := r0.dis p (.inl rfl)
  have n1 : ¬ Own ρ1 σ p := r1.dis p (.inl rfl)
  have n2 : ¬ Own ρ2 σ p := r2.dis p (.inl rfl)
  have a2 : H2 p = some (.dK []) := p2.keep p _ n1 (p1.keep p _ n0 q0)
  refine ⟨a2, [(k, vv)], rfl, by simp, ?_⟩
  have hmk : mergeK [] [(k, vv)] = [(k, vv)] := rfl
  rw [hmk]
  -- the heap behind it
  have e2 : Ex (hide (Hd (plus T p) ρ2 σ) H2) (hide (Hd (plus T p) ρ2 σ) (upd H2 p (.dK [(k, vv)]))) := fun a o w => by
    obtain ⟨w1, w2⟩ := hide_some.1 w
    exact hide_some.2 ⟨w1, by rw [upd_ne (fun z => w1 (.inl (.inl z)))]; exact w2⟩
  have r3 : RS X.K (plus T p) ρ2 σ (upd H2 p (.dK [(k, vv)])) := by
    refine ⟨r2.len, fun i d q => ?_, fun i m q => ?_, r2.inj, r2.dis, fun a t => ?_, r2.tag⟩
    · obtain ⟨v, h1, h2⟩ := r2.im i d q; exact ⟨v, h1, h2.mono e2⟩
    · obtain ⟨a, u, h1, h2, h3⟩ := r2.ow i m q
      exact ⟨a, u, h1, by rw [upd_ne (fun z => n2 (by rw [← z]; exact ⟨i, m, q, h1⟩))]; exact h2, h3.mono e2⟩
    · by_cases z : a = p
      · subst z; exact Lv.at fun _ z => nomatch z
      · exact (r2.dom a t).upd z
  have pz : Po ρ σ H ρ2 σ (upd H2 p (.dK [(k, vv)])) := by
    have pt := p1.trans p2
    refine ⟨fun a o n w => ?_, fun a w => ?_, fun a w => ?_⟩
    · have ne : a ≠ p := fun z => by subst z; rw [hp] at w; cases w
      rw [upd_ne ne]
      exact pt.keep a o n (by rw [upd_ne ne]; exact w)
    · rcases pt.own a w with z | z
      · exact .inl z
      · refine .inr ?_
        by_cases ne : a = p
        · subst ne; exact hp
        · rw [upd_ne ne] at z; exact z
    · by_cases ne : a = p
      · subst ne; rw [upd_same]; simp
      · rw [upd_ne ne]
        exact pt.dom a (by rw [upd_ne ne]; exact w)
  refine q (SV.ow (.dct [(k, d)])) ρ2 _ _ ⟨p, _, rfl, hp, upd_same, r3, ?_, fun _ _ z => nomatch z⟩ pz h
  exact (Paired.cons ⟨rfl, v2.mono e2⟩ Paired.nil : KvRp X.K _ [(k, d)] [(k, vv)])
/-- d[k], k in d, d.get(k), d a dict that nobody changes -/
theorem DGet.of {H : Hp} {q : Addr} {kws : List (Key × V)} {k : Key} (h : H q = some (.dK kws)) : DGet H q (kV k) (valV kws k) := DGet.k h
def dGetD (fa fb : DE) : DE := fun ρ Q => fa ρ fun z ρ1 => fb ρ1 fun y ρ2 => ∃ kvs k d, z = .dict (dkD kvs) ∧ keyD y = some k ∧ valD kvs k = some d ∧ Q d ρ2
theorem je_getD (hu : X.A.units + 1 < cLine) (ha : JE X a fa) (hb : JE X b fb) (hs : NoSl b := by exact fun _ _ => rfl) : JE X (.Subscript a b pos) (dGetD fa fb) := by
  obtain ⟨ta, pa, ka⟩ := ha.ex
  obtain ⟨tb, pb, kb⟩ := hb.ex
  refine ⟨_, pe_dget hu pa pb hs, fun T ρ σ H QD Q r h q => ka T ρ σ H _ _ r h fun z ρ1 v H1 r1 p1 v1 h => kb T ρ1 σ H1 _ _ r1 h fun y ρ2 w H2 r2 p2 v2 h => ?_⟩
  obtain ⟨kvs, k, d, rfl, hk, h2, h3⟩ := h
  obtain rfl := keyD_rp v2 hk
  obtain ⟨l, kws, rfl, hl, hr⟩ := dict_rp (v1.mono p2.fz)
  rcases hr.val k with ⟨z, _⟩ | ⟨d', u, z, z2, z3⟩
  · rw [z] at h2; cases h2
  · rw [z] at h2; cases h2
    have g := DGet.k (k := k) (at_of hl)
    rw [z2] at g
    exact ⟨_, _, rfl, g, q _ _ _ _ r2 (p1.trans p2) z3 h3⟩
def dInD (neg : Bool) (fb fa : DE) : DE := fun ρ Q => fb ρ fun y ρ1 => fa ρ1 fun z ρ2 => ∃ kvs k, z = .dict (dkD kvs) ∧ keyD y = some k ∧ Q (.bool (if neg then !(valD kvs k).isSome else (valD kvs k).isSome)) ρ2
theorem je_inD (hu : X.A.units + 1 < cLine) (hb : JE X b fb) (ha : JE X a fa) (hm : behindInMarks .In a = false) : JE X (.Compare b [.In] [a] pos) (dInD false fb fa) := by
  obtain ⟨ta, pa, ka⟩ := ha.ex
  obtain ⟨tb, pb, kb⟩ := hb.ex
  refine ⟨_, pe_cmp (pc_din hu pb pa) hm, fun T ρ σ H QD Q r h q => kb T ρ σ H _ _ r h fun y ρ1 v H1 r1 p1 v1 h => ka T ρ1 σ H1 _ _ r1 h fun z ρ2 w H2 r2 p2 v2 h => ?_⟩
  obtain ⟨kvs, k, rfl, hk, h3⟩ := h
  obtain rfl := keyD_rp v1 hk
  obtain ⟨l, kws, rfl, hl, hr⟩ := dict_rp v2
  refine ⟨l, _, rfl, DGet.k (k := k) (at_of hl), q _ _ _ _ r2 (p1.trans p2) (.bl _) ?_⟩
  rcases hr.val k with ⟨z, z2⟩ | ⟨d', u, z, z2, z3⟩
  · rw [z2]; rw [z] at h3; exact h3
  · rw [z2]; rw [z] at h3; exact h3
theorem je_notinD (hu : X.A.units + 1 < cLine) (hb : JE X b fb) (ha : JE X a fa) (hm : behindInMarks .NotIn a = false) : JE X (.Compare b [.NotIn] [a] pos) (dInD true fb fa) := by
  obtain ⟨ta, pa, ka⟩ := ha.ex
  obtain ⟨tb, pb, kb⟩ := hb.ex
  refine ⟨_, pe_cmp (pc_dnotin hu pb pa) hm, fun T ρ σ H QD Q r h q => kb T ρ σ H _ _ r h fun y ρ1 v H1 r1 p1 v1 h => ka T ρ1 σ H1 _ _ r1 h fun z ρ2 w H2 r2 p2 v2 h => ?_⟩
  obtain ⟨kvs, k, rfl, hk, h3⟩ := h
  obtain rfl := keyD_rp v1 hk
  obtain ⟨l, kws, rfl, hl, hr⟩ := dict_rp v2
  refine ⟨l, _, rfl, DGet.k (k := k) (at_of hl), q _ _ _ _ r2 (p1.trans p2) (.bl _) ?_⟩
  rcases hr.val k with ⟨z, z2⟩ | ⟨d', u, z, z2, z3⟩
  · rw [z2]; rw [z] at h3; exact h3
  · rw [z2]; rw [z] at h3; exact h3
theorem jt_inD (hu : X.A.units + 1 < cLine) (hb : JE X b fb) (ha : JE X a fa) (hm : behindInMarks .In a = false) : JT X (.Compare b [.In] [a] pos) (dTst (dInD false fb fa)) := by
  obtain ⟨ta, pa, ka⟩ := ha.ex
  obtain ⟨tb, pb, kb⟩ := hb.ex
  refine ⟨_, pt_cmp (pc_din hu pb pa) hm, fun T ρ σ H QD Q r h q => kb T ρ σ H _ _ r h fun y ρ1 v H1 r1 p1 v1 h => ka T ρ1 σ H1 _ _ r1 h fun z ρ2 w H2 r2 p2 v2 h => ?_⟩
  obtain ⟨kvs, k, rfl, hk, h3⟩ := h
  obtain rfl := keyD_rp v1 hk
  obtain ⟨l, kws, rfl, hl, hr⟩ := dict_rp v2
  refine ⟨l, _, rfl, DGet.k (k := k) (at_of hl), ?_⟩
  refine ⟨_, rfl, q _ _ _ r2 (p1.trans p2) ?_⟩
  rcases hr.val k with ⟨z, z2⟩ | ⟨d', u, z, z2, z3⟩
  · rw [z2]; rw [z] at h3; exact h3
  · rw [z2]; rw [z] at h3; exact h3
theorem jt_notinD (hu : X.A.units + 1 < cLine) (hb : JE X b fb) (ha : JE X a fa) (hm : behindInMarks .NotIn a = false) : JT X (.Compare b [.NotIn] [a] pos) (dTst (dInD true fb fa)) := by
  obtain ⟨ta, pa, ka⟩ := ha.ex
  obtain ⟨tb, pb, kb⟩ := hb.ex
  refine ⟨_, pt_cmp (pc_dnotin hu pb pa) hm, fun T ρ σ H QD Q r h q => kb T ρ σ H _ _ r h fun y ρ1 v H1 r1 p1 v1 h => ka T ρ1 σ H1 _ _ r1 h fun z ρ2 w H2 r2 p2 v2 h => ?_⟩
  obtain ⟨kvs, k, rfl, hk, h3⟩ := h
  obtain rfl := keyD_rp v1 hk
  obtain ⟨l, kws, rfl, hl, hr⟩ := dict_rp v2
  refine ⟨l, _, rfl, DGet.k (k := k) (at_of hl), ?_⟩
  refine ⟨_, rfl, q _ _ _ r2 (p1.trans p2) ?_⟩
  rcases hr.val k with ⟨z, z2⟩ | ⟨d', u, z, z2, z3⟩
  · rw [z2]; rw [z] at h3; exact h3
  · rw [z2]; rw [z] at h3; exact h3
def dGet1 (fa fb : DE) : DE := fun ρ Q => fa ρ fun z ρ1 => (∃ kvs, z = .dict (dkD kvs)) ∧ fb ρ1 fun y ρ2 => ∃ kvs k, z = .dict (dkD kvs) ∧ keyD y = some k ∧ Q ((valD kvs k).getD .none) ρ2
theorem je_get1 {apos cpos : Pos} (hu : X.A.units + 1 < cLine) (ha : JE X a fa) (hb : JE X b fb) (m : M1 X a "get" apos b cpos) : JE X (.Call (.Attribute a "get" apos) [b] [] cpos) (dGet1 fa fb) := by
  obtain ⟨ta, pa, ka⟩ := ha.ex
  obtain ⟨tb, pb, kb⟩ := hb.ex
  refine ⟨_, pe_dget1 hu pa pb m, fun T ρ σ H QD Q r h q => ka T ρ σ H _ _ r h fun z ρ1 v H1 r1 p1 v1 h => ?_⟩
  obtain ⟨⟨kvs0, e0⟩, h⟩ := h
  subst e0
  obtain ⟨l0, kws0, rfl, hl0, _⟩ := dict_rp v1
  refine ⟨_, rfl, .inl ⟨_, .inl (at_of hl0)⟩, kb T ρ1 σ H1 _ _ r1 h fun y ρ2 w H2 r2 p2 v2 h => ?_⟩
  obtain ⟨kvs, k, e, hk, h3⟩ := h
  rw [PyData.dict.injEq] at e
  obtain rfl := dkD_inj e
  obtain rfl := keyD_rp v2 hk
  obtain ⟨l, kws, e2, hl, hr⟩ := dict_rp (v1.mono p2.fz)
  cases e2
  refine ⟨_, DGet.k (k := k) (at_of hl), ?_⟩
  rcases hr.val k with ⟨z, z2⟩ | ⟨d', u, z, z2, z3⟩
  · rw [z2]; rw [z] at h3; exact q _ _ _ _ r2 (p1.trans p2) .non h3
  · rw [z2]; rw [z] at h3; exact q _ _ _ _ r2 (p1.trans p2) z3 h3
/-- list(d) -/
def lKeys (fa : DE) : DL := fun ρ Q => fa ρ fun z ρ1 => ∃ kvs, z = .dict (dkD kvs) ∧ Q (kvs.map fun p => keyB p.1) ρ1
theorem keys_rp {K : PySem.W.Frag} {G : Hp} {kvs : List (Key × D)} {kws : List (Key × V)} (h : KvRp K G kvs kws) (G' : Hp) : RpAll K G' (kws.map fun kv => kV kv.1) (kvs.map fun p => keyB p.1) := by
  induction h with
  | nil => exact .nil
  | @cons p q ps qs r t ih =>
    rw [List.map_cons, List.map_cons, ← r.1]
    refine .cons ?_ ih
    cases p.1 with
    | inl i => exact .int i
    | inr s => exact .str s
theorem jl_keys (hc : X.calm = true) (hm : X.mg "list" = none) (ha : JE X a fa) (hg : Gl X "list" := by rfl) (he : starEach [a] X.env = (false, eval a X.env) :: starEach [] X.env := by rfl) : JL X (.Call (.Name "list" p) [a] [] pos) (lKeys fa) := by
  obtain ⟨ta, pa, ka⟩ := ha.ex
  refine ⟨_, pe_callTy (call_list_dK hc) hg hm (by decide +kernel) (pa_cons pa pa_nil he) (by decide) (by decide) he, fun T ρ σ H QD Q r h q => ka T ρ σ H _ _ r h fun d ρ1 v H1 r1 p1 v1 h => ?_⟩
  obtain ⟨kvs, rfl, h⟩ := h
  obtain ⟨l, kws, rfl, hl, hr⟩ := dict_rp v1
  exact ⟨_, _, rfl, at_of hl, fun l2 hl2 => q _ _ _ _ _ (none_back p1 hl2) upd_same (r1.laid hl2) (keys_rp hr _) (p1.trans (.grow (Ex.new hl2))) h⟩
/-- sorted(l), ints -/
def lSort (fa : DE) : DL := fun ρ Q => fa ρ fun z ρ1 => ∃ ns : List Int, seqD z = some (ns.map PyData.int) ∧ (∃ ds, z = .list ds) ∧ ∀ ns' : List Int, ns'.Perm ns → ns'.Pairwise (· ≤ ·) → Q (ns'.map PyData.int) ρ1
theorem jl_sort (hm : X.mg "sorted" = none) (ha : JE X a fa) (hg : Gl X "sorted" := by rfl) (he : starEach [a] X.env = (false, eval a X.env) :: starEach [] X.env := by rfl) : JL X (.Call (.Name "sorted" p) [a] [] pos) (lSort fa) := by
  obtain ⟨ta, pa, ka⟩ := ha.ex
  refine ⟨_, pe_callB cr_sortedI hg hm (by decide +kernel) (pa_cons pa pa_nil he) (by decide) (by decide) he (by rfl), fun T ρ σ H QD Q r h q => ka T ρ σ H _ _ r h fun d ρ1 v H1 r1 p1 v1 h => ?_⟩
  obtain ⟨ns, e, ⟨ds, rfl⟩, h⟩ := h
  cases v1 with
  | lst hp rr =>
    cases e
    obtain rfl := rr.of_ints
    exact ⟨_, ns, rfl, .inl (.inl (at_of hp)), fun ns' l h1 h2 hl => q _ _ _ _ _ (none_back p1 hl) upd_same (r1.laid hl) (RpAll.ints ns') (p1.trans (.grow (Ex.new hl))) (h ns' h1 h2)⟩
end
end Dn
set_option Elab.async false
set_option linter.all false
set_option maxRecDepth 100000
set_option autoImplicit false
set_option maxHeartbeats 4000000
/-! len(set(t)), t[::-1], t * n, lcm -/
namespace Dn
open PySem L2 Evl PySem.Spec PyProof.Rows
/-! ### len(set(t)), t a tuple of ints -/
theorem erase_perm {l : List Int} {x : Int} (h : x ∈ l) : (x :: l.erase x).Perm l := (List.perm_cons_erase h).symm
theorem nodup_iff_len : ∀ (l ns : List Int), l.Nodup → (∀ k, k ∈ l ↔ k ∈ ns) → l.length ≤ ns.length ∧ (l.length = ns.length ↔ ns.Nodup)
  | [], ns, _, h => by
    cases ns with
    | nil => simp
    | cons x r => exact absurd ((h x).2 (by simp)) (by simp)
  | x :: l, ns, hd, h => by
    have hx : x ∈ ns := (h x).1 (by simp)
    have hd2 := List.nodup_cons.mp hd
    have p := erase_perm hx
    by_cases hy : x ∈ ns.erase x
    · -- x stands twice
      have h2 : ∀ k, k ∈ l ↔ k ∈ (ns.erase x).filter (fun z => decide (z ≠ x)) := fun k => by
        simp only [List.mem_filter, decide_eq_true_eq]
        constructor
        · intro hk
          have ne : k ≠ x := fun z => hd2.1 (by rw [← z]; exact hk)
          have : k ∈ x :: ns.erase x := p.mem_iff.2 ((h k).1 (by simp [hk]))
          rcases List.mem_cons.mp this with z | z
          · exact absurd z ne
          · exact ⟨z, ne⟩
        · rintro ⟨hk, ne⟩
          have : k ∈ ns := p.mem_iff.1 (by simp [hk])
          rcases List.mem_cons.mp ((h k).2 this) with z | z
          · exact absurd z ne
          · exact z
      have ih := nodup_iff_len l _ hd2.2 h2
      have lt : ((ns.erase x).filter (fun z => decide (z ≠ x))).length < (ns.erase x).length := by
        have := List.length_filter_lt_length_iff_exists (p := fun z => decide (z ≠ x)) (l := ns.erase x)
        exact this.2 ⟨x, hy, by simp⟩
      have e := p.length_eq
      simp only [List.length_cons] at e ⊢
      refine ⟨by omega, fun z => by omega, fun z => ?_⟩
      exact absurd (p.nodup_iff.2 z) (by simp [hy])
    · have h2 : ∀ k, k ∈ l ↔ k ∈ ns.erase x := fun k => by
        constructor
        · intro hk
          have ne : k ≠ x := fun z => hd2.1 (by rw [← z]; exact hk)
          have : k ∈ x :: ns.erase x := p.mem_iff.2 ((h k).1 (by simp [hk]))
          rcases List.mem_cons.mp this with z | z
          · exact absurd z ne
          · exact z
        · intro hk
          have : k ∈ ns := p.mem_iff.1 (by simp [hk])
          rcases List.mem_cons.mp ((h k).2 this) with z | z
          · rw [z] at hk; exact absurd hk hy
          · exact z
      have ih := nodup_iff_len l _ hd2.2 h2
      have e := p.length_eq
      simp only [List.length_cons] at e ⊢
      refine ⟨by omega, fun z => ?_, fun z => ?_⟩
      · exact p.nodup_iff.1 (List.nodup_cons.mpr ⟨hy, ih.2.1 (by omega)⟩)
      · have := ih.2.2 (List.nodup_cons.mp (p.nodup_iff.2 z)).2
        omega
section
variable {X : Cx} {a b c e : Expr} {fa fb fc : DE} {pos p : Pos} {es : List Expr} {x y : Str}
def tLenSetT (K : PySem.W.Frag) (ta : TE) : TE := fun σ H Q => ta σ H fun x H1 => ∃ (l : Addr) (ns : List Int), x = V.ref l ∧ SqT K H1 l (ns.map V.int) ∧ ns.length ≤ 4000 ∧ ∀ n : Nat, (n = ns.length ↔ ns.Nodup) → Q (.int n) H1
theorem pe_lenSetT {a : Expr} {ta : TE} {p p2 q pos : Pos} (hc : X.calm = true) (hg : Gl X "len") (hm : X.mg "len" = none) (hg2 : Gl X "set") (hm2 : X.mg "set" = none) (ha : PE X a ta)
    (na : starEach [a] X.env = (false, eval a X.env) :: starEach [] X.env := by rfl) : PE X (.Call (.Name "len" p) [.Call (.Name "set" p2) [a] [] q] [] pos) (tLenSetT X.K ta) := by
  refine ⟨fun pins s σ H Q I h => ?_⟩
  refine Call_ (ld_blt I hg hm PySem.boot_len ?_)
  refine PyProof.Rows.callWith_builtin1 (PyProof.Rows.args_cons ?_ rfl) rfl rfl
  refine Call_ (ld_blt I hg2 hm2 PyProof.Rows.boot_set ?_)
  refine PyProof.Rows.callWith_type1 (PyProof.Rows.args_cons (thn (ha.run pins s σ H _ I h) fun v s1 ⟨x, H1, I1, r1, q1⟩ => PyProof.Rows.args_nil ?_) na) na rfl
  obtain ⟨l, ns, rfl, hq, h1, q1⟩ := q1
  cases r1
  obtain ⟨its, r, pl, hz⟩ := I1.tuple hq
  refine call_set_tupI ns (I1.ok.hd hc) pl (by simpa using r.ints) (by unfold scanBound; omega) fun h' tk c R hc2 hk => ?_
  refine PyProof.Rows.args_nil ?_
  obtain ⟨o, es, ep, t, ho, hex, hd, _, nd, hm, hb, hf, hn, _⟩ := R
  have I2 : Inv X pins σ H1 { s1 with heap := h', toks := tk } := I1.kept fun b o e => hk b o e
  have hl := nodup_iff_len _ ns nd fun k => by rw [← hm k]; simp
  rw [List.length_map, Array.length_toList] at hl
  refine call_len_set ho hex hd hf (by omega) ⟨.int es.size, H1, I2.tok _, ⟨_, rfl⟩, q1 _ hl.2⟩
def dLenSet (fa : DE) : DE := fun ρ Q => fa ρ fun z ρ1 => ∃ ns : List Int, z = .tuple (ns.map PyData.int) ∧ ns.length ≤ 4000 ∧ ∀ n : Nat, (n = ns.length ↔ ns.Nodup) → Q (.int n) ρ1
theorem je_lenSet {p2 q : Pos} (hc : X.calm = true) (hm : X.mg "len" = none) (hm2 : X.mg "set" = none) (ha : JE X a fa) (hg : Gl X "len" := by rfl) (hg2 : Gl X "set" := by rfl)
    (na : starEach [a] X.env = (false, eval a X.env) :: starEach [] X.env := by rfl) : JE X (.Call (.Name "len" p) [.Call (.Name "set" p2) [a] [] q] [] pos) (dLenSet fa) := by
  obtain ⟨ta, pa, ka⟩ := ha.ex
  refine ⟨_, pe_lenSetT hc hg hm hg2 hm2 pa na, fun T ρ σ H QD Q r h q => ka T ρ σ H _ _ r h fun z ρ1 v H1 r1 p1 v1 h => ?_⟩
  obtain ⟨ns, rfl, h1, h2⟩ := h
  cases v1 with
  | tup hp rr =>
    obtain rfl := rr.of_ints
    exact ⟨_, ns, rfl, sqt_of hp, h1, fun n hn => q _ _ _ _ r1 p1 (.int _) (h2 n hn)⟩

/-! ### t[::-1] -/
theorem sliceApplied_rev {prog : Program} {w : World} {A : Around} {E : Value → Shared → Prop} {s : Shared} {sl : Addr} {t : Tok} {n : Nat} {Q : Int × Int × Nat → Shared → Prop} (hs : s.heap.IsSliceOf sl .none .none (.int (-1) t))
    (h : Q ((n : Int) - 1, -1, n) s) : wpAny (model prog w) A (Builtin.Slice.sliceApplied (.ref sl) (pure (n : Int))) Q E s := by
  obtain ⟨os, hos, hcs, hds⟩ := id hs
  unfold Builtin.Slice.sliceApplied Builtin.Slice.sliceFields
  refine wpAny_bind (wpAny_bind (wpAny_field hos hds (x := .none) rfl (wpAny_bind (wpAny_field hos hds (x := .none) rfl (wpAny_bind (wpAny_field hos hds (x := .int (-1) t) rfl (wpAny_pure ?_)))))))
  refine wpAny_bind (slicePart_int ?_)
  show wpAny _ _ (if ((-1 : Int) == 0) = true then _ else _) _ _ s
  rw [if_neg (by decide)]
  refine wpAny_bind (slicePart_none (wpAny_bind (slicePart_none (wpAny_bind (wpAny_pure ?_)))))
  show wpAny _ _ (match Builtin.Slice.sliceAdjust none none (-1) (n : Int) with | (lo, hi) => pure (lo, (-1 : Int), Builtin.Slice.slicePlaces lo hi (-1))) _ _ s
  have e1 : Builtin.Slice.sliceAdjust none none (-1) (n : Int) = ((n : Int) - 1, -1) := by
    unfold Builtin.Slice.sliceAdjust
    have h1 : (-1 : Int) < 0 := by omega
    simp only [h1, if_true]
  rw [e1]
  show wpAny _ _ (pure ((n : Int) - 1, (-1 : Int), Builtin.Slice.slicePlaces ((n : Int) - 1) (-1) (-1))) _ _ s
  have e2 : Builtin.Slice.slicePlaces ((n : Int) - 1) (-1) (-1) = n := by
    unfold Builtin.Slice.slicePlaces
    have h1 : ¬ ((-1 : Int) > 0) := by omega
    simp only [h1, if_false]
    by_cases hn : n = 0
    · subst hn; simp
    · have h2 : (-1 : Int) < (n : Int) - 1 := by omega
      simp [h2]
  rw [e2]
  exact wpAny_pure h
theorem fmap_some {α β : Type} {f : α → Option β} {g : α → β} : ∀ {l : List α}, (∀ m, m ∈ l → f m = some (g m)) → l.filterMap f = l.map g
  | [], _ => rfl
  | x :: l, h => by rw [List.filterMap_cons, h x (by simp), List.map_cons, fmap_some fun m hm => h m (by simp [hm])]
theorem pick_rev (items : List Value) : ((List.range items.length).filterMap fun (m : Nat) => items.toArray[((items.length : Int) - 1 + (m : Int) * (-1)).toNat]?) = items.reverse := by
  apply List.ext_getElem?
  intro i
  have e : ∀ m, m ∈ List.range items.length → items.toArray[((items.length : Int) - 1 + (m : Int) * (-1)).toNat]? = some ((fun m => items.getD (items.length - 1 - m) .none) m) := fun m hm => by
    have := List.mem_range.mp hm
    have h1 : ((items.length : Int) - 1 + (m : Int) * (-1)).toNat = items.length - 1 - m := by omega
    rw [h1]
    simp [List.getD]
    rw [List.getElem?_eq_getElem (by omega)]
    simp
  rw [fmap_some e]
  by_cases hi : i < items.length
  · rw [List.getElem?_map, List.getElem?_range hi, List.getElem?_reverse hi]
    simp [List.getD]
    rw [List.getElem?_eq_getElem (by omega)]
    simp
  · rw [List.getElem?_eq_none_iff.mpr (by simp; omega), List.getElem?_eq_none_iff.mpr (by simp; omega)]
theorem getItem_tuple_rev {prog : Program} {w : World} {A : Around} {E : Value → Shared → Prop} {s : Shared} {t sl : Addr} {items : List Value} {tk : Tok} {Q : Value → Shared → Prop} (ht : IsTup s.heap t items.toArray) (hs : s.heap.IsSliceOf sl .none .none (.int (-1) tk))
    (h : Q (.ref s.heap.objs.size) { s with heap := s.heap.push { cls := .type "tuple", data := .seq items.reverse.toArray } }) (hsz : items.length ≤ sizeLine) : wpAny (model prog w) A (getItem (.ref t) (.ref sl)) Q E s := by
  have htake : sizeOk (.seq items.reverse.toArray) := by
    show items.reverse.toArray.size ≤ sizeLine
    rw [List.size_toArray, List.length_reverse]; exact hsz
  obtain ⟨os, hos, hcs, hds⟩ := id hs
  have hTs : s.TypeIs (.ref sl) "slice" := ⟨os, hos, hcs⟩
  unfold getItem
  try with_reducible refine wpAny_holding ?_
  first | refine wpAny_bind (wpAny_pure ?_) | skip
  refine wpAny_bind (wpAny_sequenceKey ht.typeIs (by decide) ?_)
  refine wpAny_bind (wpAny_callSpecial?_slot (name := Str.ofString "__getitem__") ht.typeIs PyProof.Rows.slot_tuple_getitem
    (wpAny_call_entry PyProof.Rows.slot_tuple_getitem ht.typeIs entry_tuple_getitem ?_ (args_tuple_getitem _ _)))
  show wpAny _ _ (Builtin.Tuple.tupleItemsOf (.ref t) >>= _) _ _ s
  refine wpAny_bind (tupleItemsOf_ ht ?_)
  refine wpAny_bind (wpAny_typeOf hTs ?_)
  rw [if_pos (by decide)]
  refine wpAny_bind (sliceApplied_rev hs ?_)
  rw [List.size_toArray]
  show wpAny _ _ (if ((((items.length : Int) - 1) == 0 && (-1 : Int) == 1 && items.length == items.length) = true) then _ else _) _ _ s
  rw [if_neg (by simp), pick_rev]
  first
    | exact wpAny_bind (m := Builtin.Tuple.tupleExact _) (wpAny_newObj_type (wpAny_pure ⟨_, rfl, wpAny_pure h⟩) htake)
    | exact wpAny_bind (m := Builtin.Tuple.tupleExact _) (wpAny_newObj_type (wpAny_bind (wpAny_pure (wpAny_pure ⟨_, rfl, wpAny_pure h⟩))) htake)
def tRevT (K : PySem.W.Frag) (te : TE) : TE := fun σ H Q => te σ H fun x H1 => ∃ a xs, x = V.ref a ∧ SqT K H1 a xs ∧ ∀ p, H1 p = none → Q (.ref p) (upd H1 p (.tup xs.reverse))
theorem pe_revT {e : Expr} {te : TE} {k : Nat} {p1 p2 p3 pos : Pos} (he : PE X e te) : PE X (.Subscript e (.Slice none none (some (.UnaryOp .USub (.Constant (.int 1) k p1) p2)) p3) pos) (tRevT X.K te) := by
  refine ⟨fun pins s σ H Q I h => ?_⟩
  refine Subscript_ (thn (he.run pins s σ H _ I h) fun v s1 ⟨x, H1, I1, r1, q1⟩ => ?_)
  obtain ⟨a, xs, ex, hx, q⟩ := q1
  subst ex
  cases r1
  have hst : PO X (some (.UnaryOp .USub (.Constant (.int 1) k p1) p2)) (tPart (tUn (rU fun i => .int (-i)) (tC (.int 1)))) := po_some (pe_un un_neg pe_int)
  refine wpAny_Slice (thn (po_none.run pins s1 σ H1 (fun o H2 => o = none ∧ H2 = H1) I1 ⟨rfl, rfl⟩) fun vl s2 ⟨l, H2, I2, pl, el, e2⟩ => ?_)
  subst el e2
  refine thn (po_none.run pins s2 σ H2 (fun o H3 => o = none ∧ H3 = H2) I2 ⟨rfl, rfl⟩) fun vu s3 ⟨u, H3, I3, pu, eu, e3⟩ => ?_
  subst eu e3
  refine thn (hst.run pins s3 σ H3 (fun o H4 => o = some (-1) ∧ H4 = H3) I3 ⟨1, rfl, -1, rfl, rfl, rfl⟩) fun vs s4 ⟨o, H4, I4, ps, eo, e4⟩ => ?_
  subst eo e4
  obtain rfl : vl = .none := by cases pl; rfl
  obtain rfl : vu = .none := by cases pu; rfl
  obtain ⟨tk, rfl⟩ : ∃ tk, vs = .int (-1) tk := by cases ps; exact ⟨_, rfl⟩
  have I5 : L2.Inv X pins σ H4 { s4 with heap := s4.heap.push { cls := .type "slice", data := .fields #[.none, .none, .int (-1) tk] } } := I4.kept (t' := s4.toks) fun b ob q => Heap.get?_push_of_some _ q
  obtain ⟨its, r, ht, hz⟩ := I5.tuple hx
  show wpAny (model X.prog X.w) X.A (subscriptTail e (.Slice none none (some (.UnaryOp .USub (.Constant (.int 1) k p1) p2)) p3) (.ref a) (.ref s4.heap.objs.size)) (EP X pins σ Q) X.xe { s4 with heap := s4.heap.push { cls := .type "slice", data := .fields #[.none, .none, .int (-1) tk] } }
  refine tail_any (ops := [.ref a, .ref s4.heap.objs.size]) ht.typeIs (PyProof.Rows.slot_tuple_getitem.lookup) ?_ (by with_unfolding_all rfl)
  have hlen := r.length
  refine getItem_tuple_rev ht (Heap.IsSliceOf.new _ _ _ _) ?_ (by omega)
  refine ⟨.ref _, _, I5.laid (t' := s4.toks) (o := .tup xs.reverse) (fun b ob q => Heap.get?_push_of_some _ q) (Nat.le_refl _) ?_, rfl, q _ (I5.hok.fresh (Nat.le_refl _))⟩
  exact ⟨by rw [List.length_reverse]; exact hz, _, r.reverse, IsTup.new _ _⟩
def dRevT (fa : DE) : DE := fun ρ Q => fa ρ fun z ρ1 => ∃ ds, z = .tuple ds ∧ Q (.tuple ds.reverse) ρ1
theorem je_revT {k : Nat} {p1 p2 p3 : Pos} (ha : JE X a fa) : JE X (.Subscript a (.Slice none none (some (.UnaryOp .USub (.Constant (.int 1) k p1) p2)) p3) pos) (dRevT fa) := by
  obtain ⟨ta, pa, ka⟩ := ha.ex
  refine ⟨_, pe_revT pa, fun T ρ σ H QD Q r h q => ka T ρ σ H _ _ r h fun z ρ1 v H1 r1 p1 v1 h => ?_⟩
  obtain ⟨ds, rfl, h⟩ := h
  cases v1 with
  | tup hp rr => exact ⟨_, _, rfl, sqt_of hp, fun l hl => q _ _ _ _ (r1.grow (Ex.new hl)) (p1.trans (.grow (Ex.new hl))) (rp_newT (fun a => r1.hdDom) hl rr.reverse) h⟩

/-! ### t * n -/
def dRepT : D → D → (D → Prop) → Prop := fun x y Q => ∃ (ds : List D) (n : Int), x = .tuple ds ∧ y = .int n ∧ ds ≠ [] ∧ 2 ≤ n ∧ n ≤ 1000 ∧ ds.length ≤ 1000 ∧ Q (.tuple (List.replicate n.toNat ds).flatten)
theorem RpAll.rep {K : PySem.W.Frag} {G : Hp} {vs : List V} {ds : List D} (r : RpAll K G vs ds) : ∀ n : Nat, RpAll K G (List.replicate n vs).flatten (List.replicate n ds).flatten
  | 0 => .nil
  | n + 1 => by simpa [List.replicate_succ] using r.append (RpAll.rep r n)
theorem opd_repT : OpD X (binaryOp .Mult) dRepT := by
  refine ⟨_, op_repT, fun O H x y d e QD Q hO rx ry h k => ?_⟩
  obtain ⟨ds, n, rfl, rfl, h0, h1, h2, h3, h⟩ := h
  cases ry
  cases rx with
  | tup hp rr =>
    refine ⟨_, _, _, rfl, rfl, sqt_of hp, ?_, h1, h2, by rw [rr.length]; exact h3, fun l hl => k _ _ _ (Ex.new hl) (rp_newT hO hl (rr.rep _)) h⟩
    intro z; subst z; cases rr; exact h0 rfl

/-! ### lcm -/
def rLcm : List V → Hp → VK → Prop := fun vs H Q => ∃ a b : Int, vs = [.int a, .int b] ∧ a.natAbs < 2 ^ 64 ∧ b.natAbs < 2 ^ 64 ∧ Q (.int ((Nat.lcm a.natAbs b.natAbs : Nat) : Int)) H
theorem cr_lcm : CallR X (.builtin "math.lcm") rLcm := by
  intro pins s σ H vs us Q I r h
  obtain ⟨a, b, rfl, h1, h2, q⟩ := h
  obtain ⟨t, u, rfl⟩ := Vals.int2 r
  exact PySem.W.mc_lcm h1 h2 fun _ => ⟨.int _, H, I.tok _, ⟨_, rfl⟩, q⟩
end
end Dn
set_option Elab.async false
set_option linter.all false
set_option maxRecDepth 100000
set_option autoImplicit false
set_option maxHeartbeats 4000000
/-! Loops by what is left, by a fold, by a measure; dicts with int keys; what a def's reading is to do. -/
namespace Dn
open PySem L2 Evl PySem.Spec PyProof.Rows
abbrev VD (g : DS) (S : List D → (D → Prop) → Prop) (np m : Nat) : Prop := ∀ (ds : List D) (Q : D → Prop), ds.length = np → S ds Q → g { nx := fun _ => Q .none, rt := fun d _ => Q d } (envD ds m)
abbrev VM (g : DS) (S : List D → List D → (D → List D → Prop) → Prop) (np m : Nat) : Prop := ∀ (l : Addr) (ms ds : List D) (Q : D → List D → Prop), ds.length + 1 = np → S ms ds Q →
  g { nx := fun ρ => ∃ ms', ρ[0]? = some (some (.ow (.par l (.lst ms')))) ∧ Q .none ms', rt := fun d ρ => ∃ ms', ρ[0]? = some (some (.ow (.par l (.lst ms')))) ∧ Q d ms' } (some (.ow (.par l (.lst ms))) :: envD ds m)
abbrev VL (g : (List D → Prop) → Env → Prop) (S : List D → (List D → Prop) → Prop) (np m : Nat) : Prop := ∀ (ds : List D) (Q : List D → Prop), ds.length = np → S ds Q → g Q (envD ds m)

theorem wpFor_rest {g : DG} {body : DS} {E : DEnds} (I : List D → Env → Prop) {ds : List D} {ρ0 : Env} (h0 : I ds ρ0)
    (hs : ∀ (d : D) (rest : List D) (ρ : Env) (K : Env → Prop), I (d :: rest) ρ → (∀ ρ', I rest ρ' → K ρ') → g d ρ fun ρ1 => body { nx := K, ct := K, bk := E.nx, rt := E.rt } ρ1)
    (he : ∀ ρ, I [] ρ → E.nx ρ) : wpFor g body E ds ρ0 := by
  have aux : ∀ (ds : List D) (ρ : Env), I ds ρ → wpFor g body E ds ρ := by
    intro ds
    induction ds with
    | nil => intro ρ p; exact he ρ p
    | cons d rest ih => intro ρ p; exact hs d rest ρ _ p fun ρ' p' => ih ρ' p'
  exact aux ds ρ0 h0
theorem wpFor_fold {α β : Type} {g : DG} {body : DS} {E : DEnds} (l : List α) (it : α → D) (f : β → α → β) (R : β → Env → Prop) {b0 : β} {ρ0 : Env} (h0 : R b0 ρ0)
    (hs : ∀ x, x ∈ l → ∀ (b : β) (ρ : Env) (K : Env → Prop), R b ρ → (∀ ρ', R (f b x) ρ' → K ρ') → g (it x) ρ fun ρ1 => body { nx := K, ct := K, bk := E.nx, rt := E.rt } ρ1)
    (he : ∀ ρ, R (l.foldl f b0) ρ → E.nx ρ) : wpFor g body E (l.map it) ρ0 := by
  induction l generalizing b0 ρ0 with
  | nil => exact he _ h0
  | cons x l ih => exact hs x (by simp) b0 ρ0 _ h0 fun ρ' p => ih p (fun y hy => hs y (by simp [hy])) (fun ρ h => he ρ h)
theorem wpWh_lt {β : Type} {c : DT} {body : DS} {E : DEnds} (R : β → Env → Prop) (μ : β → Nat)
    (hs : ∀ (b : β) (ρ : Env) (K : Env → Prop), R b ρ → (∀ b' ρ', μ b' < μ b → R b' ρ' → K ρ') → c ρ fun t ρ1 => if t = true then body { nx := K, ct := K, bk := E.nx, rt := E.rt } ρ1 else E.nx ρ1)
    {b : β} {ρ : Env} (h : R b ρ) : ∃ n, wpWh c body E n ρ := by
  have aux : ∀ (n : Nat) (b : β) (ρ : Env), μ b < n → R b ρ → wpWh c body E n ρ := by
    intro n
    induction n with
    | zero => intro b ρ h; omega
    | succ n ih => intro b ρ h r; exact hs b ρ _ r fun b' ρ' lt r' => ih b' ρ' (by omega) r'
  exact ⟨μ b + 1, aux _ b ρ (by omega) h⟩
theorem wpFor_ap {α : Type} {g : DG} {body : DS} {E : DEnds} (l : List α) (it h : α → D) (R : List D → Env → Prop) {ρ0 : Env} (h0 : R [] ρ0)
    (hs : ∀ x, x ∈ l → ∀ (acc : List D) (ρ : Env) (K : Env → Prop), R acc ρ → acc.length < l.length → (∀ ρ', R (acc ++ [h x]) ρ' → K ρ') → g (it x) ρ fun ρ1 => body { nx := K, ct := K, bk := E.nx, rt := E.rt } ρ1)
    (he : ∀ ρ, R (l.map h) ρ → E.nx ρ) : wpFor g body E (l.map it) ρ0 := by
  refine wpFor_cps (fun done ρ => R ((l.take done.length).map h) ρ) (by simpa using h0) (fun done d rest ρ K e p k => ?_) (fun ρ p => he ρ (by simpa using p))
  obtain ⟨l1, x, l2, rfl, rfl, rfl, rfl⟩ := map_split e
  refine hs x (by simp) _ ρ K p (by simp) fun ρ' q => k ρ' ?_
  simp only [List.length_append, List.length_map, List.length_cons, List.length_nil] at q ⊢
  rw [show l1.length + (0 + 1) = (l1 ++ [x]).length by simp, show l1 ++ x :: l2 = (l1 ++ [x]) ++ l2 by simp, List.take_left']
  · simp at q ⊢; exact q
  · rfl
theorem wpLc_all {g : DG} {tt : DT} {te : DE} {vs : List Nat} {Q : List D → Env → Prop} {ds : List D} {ρ0 : Env} (Good : D → Prop) (I : Env → Prop) (h0 : I ρ0) (hl : ds.length < 16777216)
    (hs : ∀ d, d ∈ ds → ∀ (ρ : Env) (K : D → Env → Prop), I ρ → (∀ y ρ3, Good y → I (wipeD ρ3 vs) → K y ρ3) → g d (wipeD ρ vs) fun ρ1 => te ρ1 fun y ρ3 => K y ρ3)
    (hf : ∀ ρ1, tt ρ1 = fun K => K true ρ1) (he : ∀ acc ρ, acc.length = ds.length → (∀ y, y ∈ acc → Good y) → I ρ → Q acc ρ) : wpLc g tt te vs Q ds [] ρ0 := by
  refine wpLc_cps (fun done acc ρ => acc.length = done.length ∧ (∀ y, y ∈ acc → Good y) ∧ I ρ) ⟨rfl, by simp, h0⟩ (fun done d rest acc ρ K e p k => ?_) (fun acc ρ p => he acc ρ p.1 p.2.1 p.2.2)
  have el := congrArg List.length e
  simp at el
  refine ⟨by omega, ?_⟩
  simp only [hf, if_true]
  refine hs d (by rw [e]; simp) ρ _ p.2.2 fun y ρ3 gy i => k _ _ ⟨by simp [p.1], fun z hz => ?_, i⟩
  rcases List.mem_append.mp hz with hz | hz
  · exact p.2.1 z hz
  · rw [List.mem_singleton.mp hz]; exact gy
theorem wpFor_inv {g : DG} {body : DS} {E : DEnds} {ds : List D} {ρ0 : Env} (I : Env → Prop) (h0 : I ρ0)
    (hs : ∀ d, d ∈ ds → ∀ (ρ : Env) (K : Env → Prop), I ρ → (∀ ρ', I ρ' → K ρ') → g d ρ fun ρ1 => body { nx := K, ct := K, bk := E.nx, rt := E.rt } ρ1)
    (he : ∀ ρ, I ρ → E.nx ρ) : wpFor g body E ds ρ0 :=
  wpFor_cps (fun _ ρ => I ρ) h0 (fun done d rest ρ K e p k => hs d (by rw [e]; simp) ρ K p k) he
theorem all_map {α : Type} {f : α → D} {R : α → Prop} : ∀ {acc : List D}, (∀ y, y ∈ acc → ∃ r, y = f r ∧ R r) → ∃ C : List α, acc = C.map f ∧ ∀ r, r ∈ C → R r
  | [], _ => ⟨[], rfl, by simp⟩
  | y :: acc, h => by
    obtain ⟨r, rfl, hr⟩ := h y (by simp)
    obtain ⟨C, rfl, hC⟩ := all_map (acc := acc) fun y hy => h y (by simp [hy])
    exact ⟨r :: C, rfl, fun z hz => by rcases List.mem_cons.mp hz with rfl | hz; exact hr; exact hC z hz⟩
theorem mem_rgD {i j : Int} {d : D} (h : d ∈ rgD i j) : ∃ k : Int, d = .int k ∧ i ≤ k ∧ k < j := by
  unfold rgD at h
  obtain ⟨k, hk, rfl⟩ := List.mem_map.mp h
  have := List.mem_range.mp hk
  exact ⟨_, rfl, by omega, by omega⟩
theorem rgD_len {i j : Int} : (rgD i j).length = (j - i).toNat := by unfold rgD; simp
theorem cm_l {i j : Int} (h : -(2 ^ 64) < i ∧ i < 2 ^ 64) : CMul i j ∨ CMulW i j := .inl (.inl h)
theorem cm_r {i j : Int} (h : -(2 ^ 64) < j ∧ j < 2 ^ 64) : CMul i j ∨ CMulW i j := .inl (.inr h)
theorem cd_t {i t : Int} (h0 : 0 < t) (h1 : t ≤ 1000000000000000000000000000000000000000000000000000000000000) : CDivW i t := wide_div (b := 200) h0 (Nat.lt_of_le_of_lt (show t.natAbs ≤ 1000000000000000000000000000000000000000000000000000000000000 by omega) (by decide +kernel)) (by decide) (by decide)
theorem cm_n {i j : Int} (h0 : 0 ≤ i) (h : i ≤ 1000) : CMul i j ∨ CMulW i j := cm_l ⟨by omega, by omega⟩
theorem rgd {n : Nat} (h : n ≤ 1000) : RgD 0 (n : Int) := ⟨by omega, by omega, by omega, by omega⟩
theorem dLen_seq {d : D} {xs : List D} {Q : D → Prop} (h : seqD d = some xs) : dLen [d] Q = Q (.int xs.length) := by unfold dLen; dsimp only; rw [h]
theorem erase_permD {L : List D} {r : Nat} (h : r < L.length) : (L[r] :: L.eraseIdx r).Perm L := by
  rw [List.eraseIdx_eq_take_drop_succ]
  refine List.perm_middle.symm.trans ?_
  rw [← List.drop_eq_getElem_cons h, List.take_append_drop]
/-! ### tables by keys -/
theorem valD_none_any {kvs : List (Key × D)} {k : Key} : valD kvs k = none ↔ (kvs.any fun kv => decide (kv.1 = k)) = false := by
  unfold valD
  rw [Option.map_eq_none_iff, List.find?_eq_none]
  simp
theorem putD_new {kvs : List (Key × D)} {k : Key} (d : D) (h : valD kvs k = none) : putD kvs k d = kvs ++ [(k, d)] := by
  unfold putD
  rw [valD_none_any.1 h]
  simp
theorem putD_len {kvs : List (Key × D)} {k : Key} {d : D} : (putD kvs k d).length ≤ kvs.length + 1 := by
  unfold putD
  split <;> simp
theorem valD_some {kvs : List (Key × D)} {k : Key} : (valD kvs k).isSome = (kvs.any fun kv => decide (kv.1 = k)) := by
  cases h : valD kvs k with
  | none => rw [valD_none_any.1 h]; rfl
  | some d =>
    cases h2 : (kvs.any fun kv => decide (kv.1 = k)) with
    | false => rw [valD_none_any.2 h2] at h; cases h
    | true => rfl
/-- the keys of a table behind a put -/
theorem putD_has {kvs : List (Key × D)} {k j : Key} {d : D} : (valD (putD kvs k d) j).isSome = true ↔ j = k ∨ (valD kvs j).isSome = true := by
  rw [valD_some, valD_some]
  unfold putD
  by_cases h : (kvs.any fun kv => decide (kv.1 = k)) = true
  · rw [if_pos h]
    simp only [List.any_map, Function.comp_def, List.any_eq_true, decide_eq_true_eq] at h ⊢
    obtain ⟨e, he, hk⟩ := h
    constructor
    · rintro ⟨x, hx, hj⟩
      by_cases z : x.1 = k
      · rw [if_pos z] at hj; exact .inl (by rw [← hj, ← z])
      · rw [if_neg z] at hj; exact .inr ⟨x, hx, hj⟩
    · rintro (rfl | ⟨x, hx, hj⟩)
      · exact ⟨e, he, by rw [if_pos hk]; exact hk⟩
      · refine ⟨x, hx, ?_⟩
        split <;> exact hj
  · rw [if_neg h]
    simp only [List.any_append, List.any_cons, List.any_nil, Bool.or_false, Bool.or_eq_true, decide_eq_true_eq]
    constructor
    · rintro (h | h)
      · exact .inr h
      · exact .inl h.symm
    · rintro (h | h)
      · exact .inr h.symm
      · exact .inl h
end Dn
set_option Elab.async false
set_option linter.all false
set_option maxRecDepth 100000
set_option autoImplicit false
set_option maxHeartbeats 4000000
/-! Ways between things: what a search along makers finds. -/
namespace Dn
open PySem L2 Evl PySem.Spec PyProof.Rows
def im (m : List Int) (x : Int) : Int := m.getD x.toNat 0
abbrev Wy := List (Int × List Int)
def lk (w : Wy) (x : Int) : Option (List Int) := (w.find? fun e => decide (e.1 = x)).map (·.2)
def wk (f : List Int → D) (w : Wy) : List (Key × D) := w.map fun e => (Sum.inl e.1, f e.2)
theorem valD_wk (f : List Int → D) (w : Wy) (x : Int) : valD (wk f w) (.inl x) = (lk w x).map f := by
  unfold valD lk wk
  induction w with
  | nil => rfl
  | cons e w ih =>
    rw [List.map_cons, List.find?_cons, List.find?_cons]
    by_cases h : e.1 = x
    · simp [h]
    · simp only [h, decide_false, Sum.inl.injEq]
      exact ih
theorem putD_wk (f : List Int → D) (w : Wy) (x : Int) (p : List Int) (h : lk w x = none) : putD (wk f w) (.inl x) (f p) = wk f (w ++ [(x, p)]) := by
  rw [putD_new _ (by rw [valD_wk, h]; rfl)]
  unfold wk
  simp
theorem lk_mem {w : Wy} {x : Int} {p : List Int} (h : lk w x = some p) : (x, p) ∈ w := by
  unfold lk at h
  obtain ⟨e, h1, h2⟩ := Option.map_eq_some_iff.mp h
  have := List.find?_some h1
  have hm := List.mem_of_find?_eq_some h1
  simp at this
  obtain ⟨a, b⟩ := e
  simp at this h2
  subst this h2
  exact hm
theorem lk_none {w : Wy} {x : Int} : lk w x = none ↔ ∀ e, e ∈ w → e.1 ≠ x := by
  unfold lk
  rw [Option.map_eq_none_iff, List.find?_eq_none]
  simp
theorem lk_some {w : Wy} {x : Int} : (lk w x).isSome = true ↔ ∃ e, e ∈ w ∧ e.1 = x := by
  cases h : lk w x with
  | none =>
    have := lk_none.1 h
    simp
    intro a b
    exact this (x, a) b rfl
  | some p => simp; exact ⟨p, lk_mem h⟩
theorem lk_at {w : Wy} (nd : (w.map (·.1)).Nodup) {j : Nat} {e : Int × List Int} (h : w[j]? = some e) : lk w e.1 = some e.2 := by
  induction w generalizing j with
  | nil => simp at h
  | cons a w ih =>
    rw [List.map_cons, List.nodup_cons] at nd
    unfold lk
    rw [List.find?_cons]
    cases j with
    | zero => simp at h; subst h; simp
    | succ j =>
      simp at h
      have hm : e ∈ w := List.mem_of_getElem? h
      have ne : ¬ a.1 = e.1 := fun z => nd.1 (by rw [z]; exact List.mem_map.mpr ⟨e, hm, rfl⟩)
      simp only [ne, decide_false]
      exact ih nd.2 h
def st1 (mk : List (List Int)) (x : Int) (p : List Int) (w : Wy) (i : Int) : Wy :=
  if (lk w (im (mk.getD i.toNat []) x)).isSome = true then w else w ++ [(im (mk.getD i.toNat []) x, p ++ [i])]
def proc (mk : List (List Int)) (x : Int) (p : List Int) (w : Wy) : Wy := (rgI mk.length).foldl (st1 mk x p) w
def run (mk : List (List Int)) : Nat → Wy → Nat → Wy
  | 0, w, _ => w
  | k + 1, w, r => match w[r]? with
    | some e => run mk k (proc mk e.1 e.2 w) (r + 1)
    | none => w
def waysOf (mk : List (List Int)) (n : Nat) (s : Int) : Wy := run mk n [(s, [])] 0
def walk (mk : List (List Int)) (s : Int) (p : List Int) : Int := p.foldl (fun h i => im (mk.getD i.toNat []) h) s
theorem walk_snoc (mk : List (List Int)) (s : Int) (p : List Int) (i : Int) : walk mk s (p ++ [i]) = im (mk.getD i.toNat []) (walk mk s p) := by unfold walk; simp
/-- makers: moves of n things -/
structure Mk (n : Nat) (mk : List (List Int)) : Prop where
  few : mk.length ≤ 24
  most : n ≤ 24
  move : ∀ m, m ∈ mk → List.Perm m (rgI n)
theorem Mk.len {n : Nat} {mk : List (List Int)} (h : Mk n mk) {m : List Int} (hm : m ∈ mk) : m.length = n := by rw [(h.move m hm).length_eq, rgI_len]
theorem im_in {n : Nat} {m : List Int} (h : List.Perm m (rgI n)) {x : Int} (x0 : 0 ≤ x) (x1 : x < n) : 0 ≤ im m x ∧ im m x < n := by
  have hl : m.length = n := by rw [h.length_eq, rgI_len]
  have : im m x ∈ m := getD_mem (by omega)
  exact mem_rgI.mp (h.mem_iff.1 this)
theorem Mk.at {n : Nat} {mk : List (List Int)} (h : Mk n mk) {i : Int} (hi : i ∈ rgI mk.length) : mk.getD i.toNat [] ∈ mk := getD_mem (by have := mem_rgI.mp hi; omega)
structure Wg (n : Nat) (mk : List (List Int)) (s : Int) (w : Wy) : Prop where
  nd : (w.map (·.1)).Nodup
  rng : ∀ e, e ∈ w → 0 ≤ e.1 ∧ e.1 < n
  path : ∀ (j : Nat) (e : Int × List Int), w[j]? = some e → e.2.length ≤ j ∧ (∀ i, i ∈ e.2 → i ∈ rgI mk.length) ∧ walk mk s e.2 = e.1
  head : w[0]? = some (s, [])
theorem nodup_le : ∀ {l ns : List Int}, l.Nodup → (∀ k, k ∈ l → k ∈ ns) → l.length ≤ ns.length
  | [], _, _, _ => by simp
  | x :: l, ns, hd, h => by
    have hd2 := List.nodup_cons.mp hd
    have hx : x ∈ ns := h x (by simp)
    have p := erase_perm hx
    have : l.length ≤ (ns.erase x).length := nodup_le hd2.2 fun k hk => by
      have ne : k ≠ x := fun z => hd2.1 (by rw [← z]; exact hk)
      rcases List.mem_cons.mp (p.mem_iff.2 (h k (by simp [hk]))) with z | z
      · exact absurd z ne
      · exact z
    have e := p.length_eq
    simp only [List.length_cons] at e ⊢
    omega
theorem Wg.len {n : Nat} {mk : List (List Int)} {s : Int} {w : Wy} (h : Wg n mk s w) : w.length ≤ n := by
  have := nodup_le h.nd (ns := rgI n) fun k hk => by
    obtain ⟨e, he, rfl⟩ := List.mem_map.mp hk
    exact mem_rgI.mpr (h.rng e he)
  rw [rgI_len, List.length_map] at this
  exact this
theorem Wg.one {n : Nat} {mk : List (List Int)} {s : Int} (s0 : 0 ≤ s) (s1 : s < n) : Wg n mk s [(s, [])] :=
  ⟨by simp, by simp; omega, fun j e h => by
    cases j with
    | zero => simp at h; subst h; simp [walk]
    | succ j => simp at h, rfl⟩
theorem Wg.st1 {n : Nat} {mk : List (List Int)} {s : Int} {w : Wy} (h : Wg n mk s w) (hk : Mk n mk) {r : Nat} {e : Int × List Int} (hr : w[r]? = some e) {i : Int} (hi : i ∈ rgI mk.length) : Wg n mk s (st1 mk e.1 e.2 w i) := by
  unfold Dn.st1
  split
  · exact h
  · rename_i hn
    have ie := h.rng e (List.mem_of_getElem? hr)
    have ii := im_in (hk.move _ (hk.at hi)) ie.1 ie.2
    have hp := h.path r e hr
    have rl := (List.getElem?_eq_some_iff.mp hr).1
    have hn2 : ∀ a, a ∈ w → a.1 ≠ im (mk.getD i.toNat []) e.1 := fun a ha z => hn (lk_some.2 ⟨a, ha, z⟩)
    refine ⟨?_, fun a ha => ?_, fun j a ha => ?_, ?_⟩
    · rw [List.map_append, List.nodup_append]
      refine ⟨h.nd, by simp, fun a ha b hb => ?_⟩
      obtain ⟨a', ha', rfl⟩ := List.mem_map.mp ha
      simp at hb
      rw [hb]
      exact hn2 a' ha'
    · rcases List.mem_append.mp ha with ha | ha
      · exact h.rng a ha
      · rw [List.mem_singleton.mp ha]; exact ii
    · rw [List.getElem?_append] at ha
      split at ha
      · exact h.path j a ha
      · have : j - w.length = 0 := by
          have := (List.getElem?_eq_some_iff.mp ha).1
          simp at this; omega
        rw [this] at ha
        rw [List.getElem?_cons_zero, Option.some.injEq] at ha
        subst ha
        refine ⟨by simp; omega, fun k hk => ?_, by rw [walk_snoc, hp.2.2]⟩
        rcases List.mem_append.mp hk with hk | hk
        · exact hp.2.1 k hk
        · rw [List.mem_singleton.mp hk]; exact hi
    · rw [List.getElem?_append_left (by omega)]; exact h.head
theorem st1_pre (mk : List (List Int)) (x : Int) (p : List Int) (w : Wy) (i : Int) : w <+: st1 mk x p w i := by
  unfold st1
  split
  · exact List.prefix_refl w
  · exact List.prefix_append _ _
theorem pre_at {w w' : Wy} (h : w <+: w') {r : Nat} {e : Int × List Int} (hr : w[r]? = some e) : w'[r]? = some e := by
  obtain ⟨t, rfl⟩ := h
  rw [List.getElem?_append_left (List.getElem?_eq_some_iff.mp hr).1]; exact hr
theorem st1_has (mk : List (List Int)) (x : Int) (p : List Int) (w : Wy) (i : Int) : (lk (st1 mk x p w i) (im (mk.getD i.toNat []) x)).isSome = true := by
  unfold st1
  split
  · assumption
  · exact lk_some.2 ⟨_, List.mem_append_right _ (List.mem_singleton.mpr rfl), rfl⟩
theorem lk_pre {w w' : Wy} (h : w <+: w') {x : Int} (hx : (lk w x).isSome = true) : (lk w' x).isSome = true := by
  obtain ⟨e, he, z⟩ := lk_some.1 hx
  exact lk_some.2 ⟨e, h.subset he, z⟩
theorem fold_st1 {n : Nat} {mk : List (List Int)} {s : Int} (hk : Mk n mk) {r : Nat} {e : Int × List Int} : ∀ (l : List Int) (w : Wy), Wg n mk s w → w[r]? = some e → (∀ i, i ∈ l → i ∈ rgI mk.length) →
    Wg n mk s (l.foldl (st1 mk e.1 e.2) w) ∧ w <+: l.foldl (st1 mk e.1 e.2) w ∧ ∀ i, i ∈ l → (lk (l.foldl (st1 mk e.1 e.2) w) (im (mk.getD i.toNat []) e.1)).isSome = true
  | [], w, h, _, _ => ⟨h, List.prefix_refl w, by simp⟩
  | i :: l, w, h, hr, hl => by
    have h1 := h.st1 hk hr (hl i (by simp))
    have p1 := st1_pre mk e.1 e.2 w i
    obtain ⟨a, b, c⟩ := fold_st1 hk l (st1 mk e.1 e.2 w i) h1 (pre_at p1 hr) fun j hj => hl j (by simp [hj])
    refine ⟨a, p1.trans b, fun j hj => ?_⟩
    rcases List.mem_cons.mp hj with rfl | hj
    · exact lk_pre b (st1_has mk e.1 e.2 w j)
    · exact c j hj
theorem proc_ok {n : Nat} {mk : List (List Int)} {s : Int} (hk : Mk n mk) {w : Wy} (h : Wg n mk s w) {r : Nat} {e : Int × List Int} (hr : w[r]? = some e) :
    Wg n mk s (proc mk e.1 e.2 w) ∧ w <+: proc mk e.1 e.2 w ∧ ∀ i, i ∈ rgI mk.length → (lk (proc mk e.1 e.2 w) (im (mk.getD i.toNat []) e.1)).isSome = true :=
  fold_st1 hk (rgI mk.length) w h hr fun _ h => h
def Cl (mk : List (List Int)) (w : Wy) (x : Int) : Prop := ∀ i, i ∈ rgI mk.length → (lk w (im (mk.getD i.toNat []) x)).isSome = true
theorem run_ok {n : Nat} {mk : List (List Int)} {s : Int} (hk : Mk n mk) : ∀ (k : Nat) (w : Wy) (r : Nat), Wg n mk s w → n ≤ r + k → (∀ (j : Nat) (e : Int × List Int), j < r → w[j]? = some e → Cl mk w e.1) →
    Wg n mk s (run mk k w r) ∧ w <+: run mk k w r ∧ ∀ (j : Nat) (e : Int × List Int), (run mk k w r)[j]? = some e → Cl mk (run mk k w r) e.1
  | 0, w, r, h, hr, hc => ⟨h, List.prefix_refl w, fun j e he => hc j e (by have := (List.getElem?_eq_some_iff.mp he).1; have := h.len; simp only [run] at *; omega) he⟩
  | k + 1, w, r, h, hr, hc => by
    unfold run
    split
    · rename_i e he
      obtain ⟨a, b, c⟩ := proc_ok hk h he
      obtain ⟨a2, b2, c2⟩ := run_ok hk k (proc mk e.1 e.2 w) (r + 1) a (by omega) fun j e' hj he' => by
        by_cases z : j = r
        · subst z
          rw [pre_at b he] at he'; cases he'
          exact c
        · have hj2 : j < w.length := by have := (List.getElem?_eq_some_iff.mp he).1; omega
          have e2 : w[j]? = some w[j] := List.getElem?_eq_getElem hj2
          rw [pre_at b e2] at he'; cases he'
          exact fun i hi => lk_pre b (hc j _ (by omega) e2 i hi)
      exact ⟨a2, b.trans b2, c2⟩
    · rename_i he
      exact ⟨h, List.prefix_refl w, fun j e hj => hc j e (by have := (List.getElem?_eq_some_iff.mp hj).1; have := List.getElem?_eq_none_iff.mp he; omega) hj⟩
def ky (mk : List (List Int)) (n : Nat) (s : Int) (x : Int) : Prop := (lk (waysOf mk n s) x).isSome = true
section
variable {n : Nat} {mk : List (List Int)} {s : Int}
theorem ways_ok (hk : Mk n mk) (s0 : 0 ≤ s) (s1 : s < n) : Wg n mk s (waysOf mk n s) ∧ ∀ (j : Nat) (e : Int × List Int), (waysOf mk n s)[j]? = some e → Cl mk (waysOf mk n s) e.1 := by
  obtain ⟨a, _, c⟩ := run_ok hk n [(s, [])] 0 (Wg.one s0 s1) (by omega) fun j e hj => by omega
  exact ⟨a, c⟩
theorem ky_self (hk : Mk n mk) (s0 : 0 ≤ s) (s1 : s < n) : ky mk n s s := lk_some.2 ⟨_, List.mem_of_getElem? (ways_ok hk s0 s1).1.head, rfl⟩
theorem ky_step (hk : Mk n mk) (s0 : 0 ≤ s) (s1 : s < n) {x : Int} (h : ky mk n s x) {m : List Int} (hm : m ∈ mk) : ky mk n s (im m x) := by
  obtain ⟨e, he, rfl⟩ := lk_some.1 h
  obtain ⟨j, hj, ej⟩ := List.mem_iff_getElem.mp he
  obtain ⟨i, hi, ei⟩ := List.mem_iff_getElem.mp hm
  have := (ways_ok hk s0 s1).2 j e (by rw [List.getElem?_eq_getElem hj, ej]) (i : Int) (mem_rgI.mpr ⟨by omega, by omega⟩)
  simp only [Int.toNat_natCast, List.getD, List.getElem?_eq_getElem hi, ei, Option.getD_some] at this
  exact this
theorem ky_rng (hk : Mk n mk) (s0 : 0 ≤ s) (s1 : s < n) {x : Int} (h : ky mk n s x) : 0 ≤ x ∧ x < n := by
  obtain ⟨e, he, rfl⟩ := lk_some.1 h
  exact (ways_ok hk s0 s1).1.rng e he
theorem walk_in (hk : Mk n mk) (S : Int → Prop) (hc : ∀ x m, S x → m ∈ mk → S (im m x)) : ∀ (p : List Int) (a : Int), S a → (∀ i, i ∈ p → i ∈ rgI mk.length) → S (walk mk a p)
  | [], a, h, _ => h
  | i :: p, a, h, hp => walk_in hk S hc p _ (hc a _ h (hk.at (hp i (by simp)))) fun j hj => hp j (by simp [hj])
theorem ky_least (hk : Mk n mk) (s0 : 0 ≤ s) (s1 : s < n) (S : Int → Prop) (hs : S s) (hc : ∀ x m, S x → m ∈ mk → S (im m x)) {x : Int} (h : ky mk n s x) : S x := by
  obtain ⟨e, he, rfl⟩ := lk_some.1 h
  obtain ⟨j, hj, ej⟩ := List.mem_iff_getElem.mp he
  have := (ways_ok hk s0 s1).1.path j e (by rw [List.getElem?_eq_getElem hj, ej])
  rw [← this.2.2]
  exact walk_in hk S hc _ _ hs this.2.1
theorem ky_trans (hk : Mk n mk) (s0 : 0 ≤ s) (s1 : s < n) {x y : Int} (h : ky mk n s x) (h2 : ky mk n x y) : ky mk n s y := by
  have r := ky_rng hk s0 s1 h
  exact ky_least hk r.1 r.2 (ky mk n s) h (fun a m ha hm => ky_step hk s0 s1 ha hm) h2
theorem im_inj {m : List Int} (h : List.Perm m (rgI n)) {x y : Int} (x0 : 0 ≤ x) (x1 : x < n) (y0 : 0 ≤ y) (y1 : y < n) (e : im m x = im m y) : x = y := by
  have hl : m.length = n := by rw [h.length_eq, rgI_len]
  have nd : m.Nodup := h.nodup_iff.2 (by
    unfold rgI
    refine List.Pairwise.map _ (fun a b ne => ?_) List.nodup_range
    omega)
  unfold im at e
  rw [List.getD, List.getD, List.getElem?_eq_getElem (by omega), List.getElem?_eq_getElem (by omega)] at e
  simp at e
  have := (List.getElem_inj nd).mp e
  omega
theorem nodup_onto {l l' : List Int} (nd : l'.Nodup) (hs : ∀ k, k ∈ l' → k ∈ l) (hl : l.length ≤ l'.length) {x : Int} (hx : x ∈ l) : x ∈ l' := by
  by_cases h : x ∈ l'
  · exact h
  · have p := erase_perm hx
    have : l'.length ≤ (l.erase x).length := nodup_le nd fun k hk => by
      have ne : k ≠ x := fun z => h (by rw [← z]; exact hk)
      rcases List.mem_cons.mp (p.mem_iff.2 (hs k hk)) with z | z
      · exact absurd z ne
      · exact z
    have e := p.length_eq
    simp only [List.length_cons] at e
    omega
/-- what is led into the lot comes of the lot -/
theorem ky_back (hk : Mk n mk) (s0 : 0 ≤ s) (s1 : s < n) {x : Int} {m : List Int} (hm : m ∈ mk) (x0 : 0 ≤ x) (x1 : x < n) (h : ky mk n s (im m x)) : ky mk n s x := by
  have W := (ways_ok hk s0 s1).1
  have onto := nodup_onto (l := (waysOf mk n s).map (·.1)) (l' := (waysOf mk n s).map fun e => im m e.1) (by
      have := W.nd
      rw [List.Nodup, List.pairwise_map] at this ⊢
      refine this.imp_of_mem fun {a b} ha hb ne z => ne ?_
      have ra := W.rng a ha
      have rb := W.rng b hb
      exact im_inj (hk.move m hm) ra.1 ra.2 rb.1 rb.2 z) (fun k hk2 => by
      obtain ⟨e, he, rfl⟩ := List.mem_map.mp hk2
      obtain ⟨e2, he2, z⟩ := lk_some.1 (ky_step hk s0 s1 (lk_some.2 ⟨e, he, rfl⟩) hm)
      exact List.mem_map.mpr ⟨e2, he2, z⟩) (by simp) (x := im m x) (by
      obtain ⟨e, he, z⟩ := lk_some.1 h
      exact List.mem_map.mpr ⟨e, he, z⟩)
  obtain ⟨e, he, z⟩ := List.mem_map.mp onto
  have re := W.rng e he
  have := im_inj (hk.move m hm) re.1 re.2 x0 x1 z
  exact lk_some.2 ⟨e, he, this⟩
theorem ky_symm (hk : Mk n mk) (s0 : 0 ≤ s) (s1 : s < n) {x : Int} (h : ky mk n s x) : ky mk n x s := by
  have r := ky_rng hk s0 s1 h
  by_cases z : ky mk n x s
  · exact z
  · have : ¬ ky mk n x x := (ky_least hk s0 s1 (fun y => (0 ≤ y ∧ y < n) ∧ ¬ ky mk n x y) ⟨⟨s0, s1⟩, z⟩ (fun a m ha hm => ⟨im_in (hk.move m hm) ha.1.1 ha.1.2, fun w => ha.2 (ky_back hk r.1 r.2 hm ha.1.1 ha.1.2 w)⟩) h).2
    exact absurd (ky_self hk r.1 r.2) this
end
end Dn
set_option Elab.async false
set_option linter.all false
set_option maxRecDepth 100000
set_option autoImplicit false
set_option maxHeartbeats 4000000
/-! What the shared defs are to do. -/
namespace Dn
open PySem L2 Evl PySem.Spec PyProof.Rows
abbrev T60 : Int := 1000000000000000000000000000000000000000000000000000000000000
def isI : D → Bool
  | .int i => decide (-1000000000000000000000000000000000000000000000000000000000000 < i) && decide (i < 1000000000000000000000000000000000000000000000000000000000000)
  | _ => false
def isTh (n : Int) : D → Bool
  | .int i => (decide (-1000000000000000000000000000000000000000000000000000000000000 < i) && decide (i < 1000000000000000000000000000000000000000000000000000000000000)) && (decide (0 ≤ i) && decide (i < n))
  | _ => false
def isRow (m n : Int) : D → Bool
  | .tuple xs => decide ((xs.length : Int) = m) && xs.all (isTh n)
  | _ => false
def okW (d : D) : Prop := ∀ xs, d = .tuple xs → xs.length ≤ 100000
def intD : D → Int
  | .int i => i
  | _ => 0
def isMove : D → Bool
  | .tuple xs => decide (xs.length ≤ 24) && (xs.all (isTh xs.length) && decide ((xs.map intD).Nodup))
  | _ => false
def isMoveOf (n : Int) (d : D) : Bool := isMove d && (match d with
  | .tuple xs => decide ((xs.length : Int) = n)
  | _ => false)
theorem isTh_in {n x : Int} (h0 : 0 ≤ x) (h1 : x < n) (hn : n ≤ 24) : isTh n (.int x) = true := by
  simp only [isTh, Bool.and_eq_true, decide_eq_true_eq]
  omega
theorem isTh_int {n : Int} {d : D} (h : isTh n d = true) : ∃ i, d = .int i ∧ 0 ≤ i ∧ i < n := by
  cases d with
  | int i => simp only [isTh, Bool.and_eq_true, decide_eq_true_eq] at h; exact ⟨i, rfl, h.2.1, h.2.2⟩
  | _ => simp [isTh] at h
theorem all_ints {n : Int} : ∀ {xs : List D}, xs.all (isTh n) = true → xs = (xs.map intD).map PyData.int
  | [], _ => rfl
  | x :: xs, h => by
    rw [List.all_cons, Bool.and_eq_true] at h
    obtain ⟨i, rfl, _⟩ := isTh_int h.1
    rw [List.map_cons, List.map_cons, ← all_ints h.2]
    rfl
theorem intD_map (ns : List Int) : (ns.map PyData.int).map intD = ns := by
  induction ns with
  | nil => rfl
  | cons x ns ih => simp [intD] at ih ⊢; exact ih
theorem nodup_rgI (n : Nat) : (rgI n).Nodup := by
  unfold rgI
  refine List.Pairwise.map _ (fun a b ne => ?_) List.nodup_range
  omega
theorem move_perm {n : Nat} {m : List Int} (h : List.Perm m (rgI n)) (hn : n ≤ 24) : isMove (tI m) = true ∧ isMoveOf n (tI m) = true := by
  have hl : m.length = n := by rw [h.length_eq, rgI_len]
  have h1 : isMove (tI m) = true := by
    unfold isMove tI
    simp only [Bool.and_eq_true, decide_eq_true_eq, List.length_map, hl, List.all_map, List.all_eq_true, intD_map]
    refine ⟨hn, fun x hx => ?_, h.nodup_iff.2 (nodup_rgI n)⟩
    have := mem_rgI.mp (h.mem_iff.1 hx)
    exact isTh_in this.1 this.2 (by omega)
  refine ⟨h1, ?_⟩
  unfold isMoveOf
  rw [h1]
  simp [tI, hl]
def optT : Option (List Int) → D
  | none => .none
  | some p => tI p
/-- lots of things that lead to one another -/
structure Lots (n : Nat) (mk : List (List Int)) (lots : List (List Int)) : Prop where
  few : lots.length ≤ n
  each : ∀ l, l ∈ lots → l.length ≤ n ∧ ∃ a : Int, 0 ≤ a ∧ a < n ∧ ∀ x, x ∈ l ↔ ky mk n a x
  all : ∀ x : Int, 0 ≤ x → x < n → ∃ l, l ∈ lots ∧ x ∈ l
def isWay (mk : List (List Int)) (n : Nat) (s g : Int) (d : D) : Bool := match lk (waysOf mk n s) g with
  | none => false
  | some p => isRow p.length mk.length d && (match d with
    | .tuple xs => decide (walk mk s (xs.map intD) = g)
    | _ => false)
def S_is_integer (ds : List D) (Q : D → Prop) : Prop := ∃ d, ds = [d] ∧ Q (.bool (isI d))
def S_is_within (ds : List D) (Q : D → Prop) : Prop := ∃ i a b, ds = [.int i, .int a, .int b] ∧ Q (.bool (isI (.int i) && (decide (a ≤ i) && decide (i ≤ b))))
def S_is_thing (ds : List D) (Q : D → Prop) : Prop := ∃ d n, ds = [d, .int n] ∧ Q (.bool (isTh n d))
def S_is_row (ds : List D) (Q : D → Prop) : Prop := ∃ d m n, ds = [d, .int m, .int n] ∧ okW d ∧ n ≤ 100000 ∧ Q (.bool (isRow m n d))
def S_check_integer (ds : List D) (Q : D → Prop) : Prop := ∃ d, ds = [d] ∧ isI d = true ∧ Q .none
def S_check_within (ds : List D) (Q : D → Prop) : Prop := ∃ i a b, ds = [.int i, .int a, .int b] ∧ isI (.int i) = true ∧ a ≤ i ∧ i ≤ b ∧ Q .none
def S_check_thing (ds : List D) (Q : D → Prop) : Prop := ∃ d n, ds = [d, .int n] ∧ isTh n d = true ∧ Q .none
def S_is_move (ds : List D) (Q : D → Prop) : Prop := ∃ d, ds = [d] ∧ Q (.bool (isMove d))
def S_is_move_of (ds : List D) (Q : D → Prop) : Prop := ∃ d n, ds = [d, .int n] ∧ Q (.bool (isMoveOf n d))
def S_check_move (ds : List D) (Q : D → Prop) : Prop := ∃ d, ds = [d] ∧ isMove d = true ∧ Q .none
def S_check_move_of (ds : List D) (Q : D → Prop) : Prop := ∃ d n, ds = [d, .int n] ∧ isMoveOf n d = true ∧ Q .none
def S_check_makers (ds : List D) (Q : D → Prop) : Prop := ∃ (n : Nat) (mk : List (List Int)), ds = [.int n, tR mk] ∧ Mk n mk ∧ Q .none
def S__check_way (ds : List D) (Q : D → Prop) : Prop := ∃ (n : Nat) (mk : List (List Int)) (s g : Int), ds = [.int n, tR mk, .int s, .int g] ∧ Mk n mk ∧ (0 ≤ s ∧ s < n) ∧ (0 ≤ g ∧ g < n) ∧ Q .none
def S__ways_from (ds : List D) (Q : D → Prop) : Prop := ∃ (n : Nat) (mk : List (List Int)) (s : Int), ds = [tR mk, .int s] ∧ Mk n mk ∧ (0 ≤ s ∧ s < n) ∧ Q (.dict (dkD (wk tI (waysOf mk n s))))
def S_orbits (ds : List D) (Q : D → Prop) : Prop := ∃ (n : Nat) (mk : List (List Int)), ds = [.int n, tR mk] ∧ Mk n mk ∧ ∀ lots, Lots n mk lots → Q (tR lots)
def S_way (ds : List D) (Q : D → Prop) : Prop := ∃ (n : Nat) (mk : List (List Int)) (s g : Int), ds = [.int n, tR mk, .int s, .int g] ∧ Mk n mk ∧ (0 ≤ s ∧ s < n) ∧ (0 ≤ g ∧ g < n) ∧ Q (optT (lk (waysOf mk n s) g))
def S_is_way (ds : List D) (Q : D → Prop) : Prop := ∃ (n : Nat) (mk : List (List Int)) (s g : Int) (d : D), ds = [.int n, tR mk, .int s, .int g, d] ∧ Mk n mk ∧ (0 ≤ s ∧ s < n) ∧ (0 ≤ g ∧ g < n) ∧ okW d ∧ Q (.bool (isWay mk n s g d))
def Dc (ms : List D) : Prop := ∃ a b c : Int, ms = [.int a, .int b, .int c]
def scr (s : List Int) : D := .dict [(.none, .tuple (s.map PyData.int))]
def S__law_dice (ds : List D) (Q : List D → Prop) : Prop := ∃ s i, ds = [scr s, .int i] ∧ 0 ≤ i ∧ ∀ ms, Dc ms → Q ms
def S__law_roll (ms ds : List D) (Q : D → List D → Prop) : Prop := ∃ t, ds = [.int t] ∧ 0 < t ∧ t ≤ T60 ∧ Dc ms ∧ ∀ r ms', 0 ≤ r → r < t → Dc ms' → Q (.int r) ms'
def S__law_pick (ms ds : List D) (Q : D → List D → Prop) : Prop := ∃ d xs, ds = [d] ∧ seqD d = some xs ∧ xs ≠ [] ∧ xs.length ≤ 100000 ∧ Dc ms ∧ ∀ x ms', x ∈ xs → Dc ms' → Q x ms'
def S__law_mixed (ms ds : List D) (Q : D → List D → Prop) : Prop := ∃ d xs, ds = [d] ∧ seqD d = some xs ∧ xs.length ≤ 100000 ∧ Dc ms ∧ ∀ ys ms', ys.Perm xs → Dc ms' → Q (.list ys) ms'
def S__law_drawn_move (ms ds : List D) (Q : D → List D → Prop) : Prop := ∃ n : Nat, ds = [.int n] ∧ n ≤ 1000 ∧ Dc ms ∧ ∀ m ms', List.Perm m (rgI n) → Dc ms' → Q (tI m) ms'
theorem start_scr {K : PySem.W.Frag} {H : Hp} {a : Addr} {ns : List Int} (hS : SqL K H a (ns.map V.int)) : RpAll K (hide (fun _ => False) H) [.ref a] [scr ns] := by
  have e : Ex H (hide (fun _ => False) H) := fun a o h => hide_some.2 ⟨id, h⟩
  exact .cons (.frz (ex_l e hS) (RpAll.ints ns)) .nil
end Dn
set_option Elab.async false
set_option linter.all false
set_option maxRecDepth 100000
set_option autoImplicit false
set_option maxHeartbeats 4000000
/-! sorted(l), l a list of tuples of ints, none of them empty, of any lengths -/
namespace SrL
open PySem PyProof.Rows Srt SrtO
def lx : List Int → List Int → Bool
  | [], [] => false
  | [], _ :: _ => true
  | _ :: _, [] => false
  | x :: a, y :: b => if x = y then lx a b else decide (x < y)
theorem lx_asym : ∀ {a b : List Int}, lx a b = true → lx b a = false
  | [], [], _ => rfl
  | [], _ :: _, _ => rfl
  | _ :: _, [], h => by simp [lx] at h
  | x :: a, y :: b, h => by
    unfold lx at h ⊢
    by_cases e : x = y
    · rw [if_pos e] at h; rw [if_pos e.symm]; exact lx_asym h
    · rw [if_neg e] at h; rw [if_neg (Ne.symm e)]
      have := of_decide_eq_true h
      exact decide_eq_false (by omega)
theorem lx_tr : ∀ {a b c : List Int}, lx b a = false → lx c b = false → lx c a = false
  | [], [], [], _, _ => rfl
  | [], [], _ :: _, _, h => by simp [lx] at h; rfl
  | [], _ :: _, [], _, h => by simp [lx] at h
  | [], _ :: _, _ :: _, _, _ => rfl
  | _ :: _, [], _, h, _ => by simp [lx] at h
  | _ :: _, _ :: _, [], _, h => by simp [lx] at h
  | x :: a, y :: b, z :: c, h1, h2 => by
    unfold lx at h1 h2 ⊢
    by_cases e1 : y = x
    · rw [if_pos e1] at h1
      by_cases e2 : z = y
      · rw [if_pos e2] at h2; rw [if_pos (e2.trans e1)]; exact lx_tr h1 h2
      · rw [if_neg e2] at h2; rw [if_neg (by rw [← e1]; exact e2)]; rw [← e1]; exact h2
    · rw [if_neg e1] at h1
      have k1 := of_decide_eq_false h1
      by_cases e2 : z = y
      · rw [e2, if_neg e1]; exact h1
      · rw [if_neg e2] at h2
        have k2 := of_decide_eq_false h2
        rw [if_neg (by omega)]
        exact decide_eq_false (by omega)
theorem lx_eq : ∀ {a b : List Int}, lx a b = false → lx b a = false → a = b
  | [], [], _, _ => rfl
  | [], _ :: _, h, _ => by simp [lx] at h
  | _ :: _, [], _, h => by simp [lx] at h
  | x :: a, y :: b, h1, h2 => by
    unfold lx at h1 h2
    by_cases e : x = y
    · rw [if_pos e] at h1; rw [if_pos e.symm] at h2
      rw [e, lx_eq h1 h2]
    · rw [if_neg e] at h1; rw [if_neg (Ne.symm e)] at h2
      have k1 := of_decide_eq_false h1
      have k2 := of_decide_eq_false h2
      omega
theorem swo_lx (k : Value → List Int) : Swo fun v u => lx (k v) (k u) := ⟨fun _ _ h => lx_asym h, fun _ _ _ h1 h2 => lx_tr h1 h2⟩
section
variable {prog : Program} {w : World} {A : Around} {E : Value → Shared → Prop} {s : Shared} {Q : Bool → Shared → Prop}
theorem lex_any {b fin : Bool} {xs ys : List Value} {ns ms : List Int} (i : Nat) (hx : IntsAre xs ns) (hy : IntsAre ys ms) (hf : fin = decide (ns.length < ms.length)) (h : Q (lx ns ms) s) : PySem.W.KatLex prog w A b fin Q (xs.zip ys) i s := by
  induction hx generalizing ys ms i with
  | nil =>
    cases hy with
    | nil => simp at hf; subst hf; exact PySem.W.kat_nil h
    | cons q u hy => simp at hf; subst hf; exact PySem.W.kat_nil h
  | @cons p t xs ns hx ih =>
    cases hy with
    | nil => simp at hf; subst hf; exact PySem.W.kat_nil h
    | @cons q u ys ms hy =>
      have hf' : fin = decide (ns.length < ms.length) := by simpa using hf
      show PySem.W.KatLex prog w A b fin Q ((Value.int p t, Value.int q u) :: xs.zip ys) i s
      refine PySem.W.kat_cons (wpAny_eqBool_int ?_)
      by_cases e : p = q
      · subst e
        rw [beq_self_eq_true]
        have d : lx (p :: ns) (p :: ms) = lx ns ms := by rw [lx, if_pos rfl]
        rw [d] at h
        refine PySem.W.kat_yes ?_
        first
          | exact ih (i + 1) hy hf' h
          | exact ih _ _ (i + 1) hy hf' h
      · rw [show (p == q) = false from beq_eq_false_iff_ne.mpr e]
        refine PySem.W.kat_no (TS.oneLt_ints _ ?_)
        have d : lx (p :: ns) (q :: ms) = decide (p < q) := by rw [lx, if_neg e]
        rw [d] at h
        exact h
theorem tup_cmp {vs : List Value} {k : Value → List Int} (hp : ∀ v ∈ vs, TS.TupInts s.heap v (k v)) : Cmp prog w A s (tuples' true) (fun p => p.1 ∈ vs) (lt2 fun v u => lx (k v) (k u)) := by
  intro p q hm hm'
  have h1 := hp _ hm
  have h2 := hp _ hm'
  show wpAny (model prog w) A (keyLt' (tuples' true) p.1 q.1) (fun r s' => s' = s ∧ r = lx (k p.1) (k q.1)) (fun _ _ => False) s
  generalize k p.1 = x at h1 ⊢
  generalize k q.1 = y at h2 ⊢
  obtain ⟨a, xs, e, ⟨o, ho, hc, n, hd⟩, i1⟩ := h1
  obtain ⟨a', xs', e', ⟨o', ho', hc', n', hd'⟩, i2⟩ := h2
  rw [e, e']
  refine PySem.W.kat_lt ho hd ho' hd' (lex_any 0 i1 i2 ?_ ⟨rfl, rfl⟩)
  rw [← i1.length, ← i2.length, Array.length_toList, Array.length_toList]
theorem firsts {h : Heap} {k : Value → List Int} : ∀ vs : List Value, (∀ v ∈ vs, TS.TupInts h v (k v)) → (∀ v ∈ vs, k v ≠ []) → ∃ fs, PySem.W.KatTups h vs fs ∧ fs.length = vs.length ∧ ∀ f, f ∈ fs → ∃ n t, f = Value.int n t
  | [], _, _ => ⟨[], PySem.W.KatTups.nil, rfl, fun f hf => by simp at hf⟩
  | v :: vs, x, hne => by
    obtain ⟨fs, kt, hl, hi⟩ := firsts vs (fun u hu => x u (List.mem_cons_of_mem _ hu)) fun u hu => hne u (List.mem_cons_of_mem _ hu)
    have hv := hne v (List.mem_cons_self ..)
    obtain ⟨a, xs, rfl, ⟨o, ho, hc, n, hdt⟩, i⟩ := x v (List.mem_cons_self ..)
    obtain ⟨y, ys, e⟩ : ∃ y ys, xs.toList = y :: ys := by
      cases q : xs.toList with
      | nil =>
        rw [q] at i
        have l := i.length
        rw [List.length_nil] at l
        exact absurd (List.length_eq_zero_iff.mp l.symm) hv
      | cons y ys => exact ⟨y, ys, rfl⟩
    obtain ⟨m, t, hy⟩ := i.all y (by rw [e]; exact List.mem_cons_self ..)
    refine ⟨y :: fs, PySem.W.KatTups.cons ho hc hdt ?_ kt, by simp [hl], ?_⟩
    · have z := congrArg (fun l : List Value => l[0]?) e
      simpa using z
    · intro f hf
      rcases List.mem_cons.mp hf with rfl | hf
      · exact ⟨m, t, hy⟩
      · exact hi f hf
theorem tups_sortableO {a : Addr} {vs : List Value} {k : Value → List Int} (h0 : 0 < vs.length) (hp : ∀ v ∈ vs, TS.TupInts s.heap v (k v)) (hne : ∀ v ∈ vs, k v ≠ []) (ha : ∀ o, s.heap.get? a = some o → o.cls ≠ .type "tuple") : SortableO prog w A s a vs fun v u => lx (k v) (k u) := by
  intro h' keep
  have hp' : ∀ v ∈ vs, TS.TupInts h' v (k v) := fun v hm => (hp v hm).keeps fun b o e c => keep b o (fun z => by subst z; exact ha o e c) e
  obtain ⟨fs, h1, h2, h3⟩ := firsts vs hp' hne
  refine ⟨tuples' true, fun Q E hq => ?_, tup_cmp hp'⟩
  refine PySem.W.kat_kind (T := .type "int") h1 (by omega) (fun f hm => ?_) (by rfl) ?_
  · obtain ⟨x, t, rfl⟩ := h3 f hm
    exact PySem.W.Looks.of_pure rfl
  · have e : (Value.type "int" != Value.type "tuple") = true := by first | decide +kernel | rfl | decide
    rw [e]
    exact hq
end
end SrL
namespace Dn
open PySem L2 Evl PySem.Spec PyProof.Rows SrL
section
variable {X : Cx}
def rSortL (K : PySem.W.Frag) : List V → Hp → VK → Prop := fun vs H Q => ∃ (a : Addr) (xs : List V), vs = [V.ref a] ∧ SqL K H a xs ∧ (∀ x ∈ xs, ∃ ns, TupI K H x ns ∧ ns ≠ []) ∧
  ∀ (ys : List V) (p : Addr), ys.Perm xs → ys.Pairwise (fun x y => ∀ n m, TupI K H x n → TupI K H y m → lx m n = false) → H p = none → Q (.ref p) (upd H p (.lst ys))
theorem cr_sortL : CallR X (.builtin "sorted") (rSortL X.K) := by
  intro pins s σ H vs us Q I r h
  obtain ⟨a, xs, rfl, hs, hx, q⟩ := h
  obtain ⟨its, rv, hl, hz⟩ := I.list hs
  rw [Vals.ref1 r]
  obtain ⟨e1, e2⟩ := bkV_refs rv fun x m => by
    obtain ⟨ns, ⟨t, e, _⟩, _⟩ := hx x m
    exact ⟨t, e⟩
  have tup : ∀ v, v ∈ its → TS.TupInts s.heap v (TS.intsOf s.heap v) ∧ TS.intsOf s.heap v ≠ [] := fun v hv => by
    obtain ⟨t, rfl⟩ := e2 v hv
    have hm : V.ref t ∈ xs := by
      rw [e1]
      exact List.mem_map.mpr ⟨_, hv, rfl⟩
    obtain ⟨ns, ⟨t', e, ht⟩, hn⟩ := hx _ hm
    cases e
    have ti := tupI_raw I ht
    rw [ti.ints]
    exact ⟨ti, hn⟩
  refine SrtO.sorted_ord (swo_lx (TS.intsOf s.heap)) hl.isList (by rw [← rv.length]; exact hz) (fun h2 h₁ a' ha kk => ?_) fun out hs2 hb => ?_
  · refine tups_sortableO (s := { s with heap := h₁ }) (by omega) (fun v hm => (tup v hm).1.keeps fun b o e _ => (kk b o e).2) (fun v hm => (tup v hm).2) fun o e => ?_
    have e' : some o = some (seqObj "list" its.toArray 0) := e.symm.trans ha
    cases e'
    intro c
    exact absurd (Value.type.inj c) (by decide)
  · obtain ⟨ep, he'⟩ := PyProof.Rows.sortedAll_at s.heap its out.toArray
    have h3 : ∀ u ∈ out, ∃ a, u = Value.ref a := fun u hu => e2 u (hb.perm.mem_iff.mp hu)
    have hp : (out.map bkV).Perm xs := by
      rw [e1]
      exact hb.perm.map bkV
    have hlen : (out.map bkV).length ≤ sizeLine := by
      rw [hp.length_eq]
      exact hz
    refine ⟨.ref _, upd H (s.heap.objs.size + 1) (.lst (out.map bkV)), I.laid (t' := s.toks) (fun _ _ => PyProof.Rows.sortedAll_old) (Nat.le_succ _) ⟨hlen, out, ep, bkV_vals h3, he'⟩, rfl, q _ _ hp ?_ (I.hok.fresh (Nat.le_succ _))⟩
    rw [List.pairwise_map]
    refine List.Pairwise.imp (fun {u v} huv n m hn hm => ?_) hs2
    obtain ⟨t, et, ht⟩ := hn
    obtain ⟨t', et', ht'⟩ := hm
    have eu := bkV_ref et
    have ev := bkV_ref et'
    have i1 : TS.intsOf s.heap u = n := by
      rw [eu]
      exact (tupI_raw I ht).ints
    have i2 : TS.intsOf s.heap v = m := by
      rw [ev]
      exact (tupI_raw I ht').ints
    rw [← i1, ← i2]
    exact huv
theorem RpAll.perm {K : PySem.W.Frag} {G : Hp} {ys xs : List V} (h : ys.Perm xs) : ∀ {ds : List D}, RpAll K G xs ds → ∃ ds', ds'.Perm ds ∧ RpAll K G ys ds' := by
  induction h with
  | nil => intro ds r; exact ⟨ds, .refl _, r⟩
  | cons x h ih =>
    intro ds r
    cases r with
    | cons r rr =>
      obtain ⟨ds', p, r2⟩ := ih rr
      exact ⟨_, p.cons _, .cons r r2⟩
  | swap x y l =>
    intro ds r
    cases r with
    | cons r rr =>
      cases rr with
      | cons r2 rr => exact ⟨_, .swap _ _ _, .cons r2 (.cons r rr)⟩
  | trans h1 h2 ih1 ih2 =>
    intro ds r
    obtain ⟨ds2, p2, r2⟩ := ih2 r
    obtain ⟨ds1, p1, r1⟩ := ih1 r2
    exact ⟨ds1, p1.trans p2, r1⟩
theorem perm_map {α : Type} {f : α → D} : ∀ {ys zs : List D}, ys.Perm zs → ∀ {l : List α}, zs = l.map f → ∃ l' : List α, ys = l'.map f ∧ l'.Perm l := by
  intro ys zs h
  induction h with
  | nil =>
    intro l e
    cases l with
    | nil => exact ⟨[], rfl, .nil⟩
    | cons _ _ => cases e
  | cons x h ih =>
    intro l e
    cases l with
    | nil => cases e
    | cons n ns =>
      simp at e
      obtain ⟨ms, e1, e2⟩ := ih e.2
      exact ⟨n :: ms, by simp [e1, e.1], e2.cons n⟩
  | swap x y l =>
    intro ns e
    match ns, e with
    | a :: b :: ns, e =>
      simp at e
      exact ⟨b :: a :: ns, by simp [e.1, e.2.1, e.2.2], .swap a b ns⟩
  | trans h1 h2 ih1 ih2 =>
    intro ns e
    obtain ⟨ms, e1, e2⟩ := ih2 e
    obtain ⟨ms2, e3, e4⟩ := ih1 e1
    exact ⟨ms2, e3, e4.trans e2⟩
def tI0 (ns : List Int) : D := .tuple (ns.map PyData.int)
theorem tupI_rp {K : PySem.W.Frag} {O : Addr → Prop} {H : Hp} {v : V} {ns : List Int} (r : Rp K (hide O H) v (tI0 ns)) : TupI K H v ns := by
  unfold tI0 at r
  cases r with
  | tup h rr =>
    obtain rfl := rr.of_ints
    exact ⟨_, rfl, sqt_of h⟩
theorem pw_rp {K : PySem.W.Frag} {O : Addr → Prop} {H : Hp} : ∀ {ys : List V} {L : List (List Int)}, RpAll K (hide O H) ys (L.map tI0) → ys.Pairwise (fun x y => ∀ n m, TupI K H x n → TupI K H y m → lx m n = false) → L.Pairwise fun a b => lx b a = false
  | _, [], _, _ => .nil
  | y :: ys, l :: L, .cons r rr, .cons h p => by
    refine .cons (fun b hb => ?_) (pw_rp rr p)
    obtain ⟨i, hi, e⟩ := List.mem_iff_getElem.mp hb
    have e2 : (L.map tI0)[i]? = some (tI0 b) := by rw [List.getElem?_map, List.getElem?_eq_getElem hi, e]; rfl
    obtain ⟨v, h1, h2⟩ := rr.get e2
    exact h v (List.mem_of_getElem? h1) l b (tupI_rp r) (tupI_rp h2)
variable {a : Expr} {fa : DE} {pos p : Pos}
/-- sorted(l), tuples of ints -/
def lSortT (fa : DE) : DL := fun ρ Q => fa ρ fun z ρ1 => ∃ L : List (List Int), z = .list (L.map tI0) ∧ (∀ l, l ∈ L → l ≠ []) ∧ ∀ L' : List (List Int), L'.Perm L → (L'.Pairwise fun a b => lx b a = false) → Q (L'.map tI0) ρ1
theorem jl_sortT (hm : X.mg "sorted" = none) (ha : JE X a fa) (hg : Gl X "sorted" := by rfl) (he : starEach [a] X.env = (false, eval a X.env) :: starEach [] X.env := by rfl) : JL X (.Call (.Name "sorted" p) [a] [] pos) (lSortT fa) := by
  obtain ⟨ta, pa, ka⟩ := ha.ex
  refine ⟨_, pe_callB cr_sortL hg hm (by decide +kernel) (pa_cons pa pa_nil he) (by decide) (by decide) he (by rfl), fun T ρ σ H QD Q r h q => ka T ρ σ H _ _ r h fun d ρ1 v H1 r1 p1 v1 h => ?_⟩
  obtain ⟨L, rfl, hne, h⟩ := h
  cases v1 with
  | lst hp rr =>
    refine ⟨_, _, rfl, .inl (.inl (at_of hp)), fun x hx => ?_, fun ys l h1 h2 hl => ?_⟩
    · obtain ⟨i, hi, e⟩ := List.mem_iff_getElem.mp hx
      obtain ⟨d, e2, r2⟩ := rr.get' (by rw [List.getElem?_eq_getElem hi, e])
      rw [List.getElem?_map] at e2
      obtain ⟨b, e3, rfl⟩ := Option.map_eq_some_iff.mp e2
      exact ⟨b, tupI_rp r2, hne b (List.mem_of_getElem? e3)⟩
    · obtain ⟨ds', pm, r2⟩ := RpAll.perm h1 rr
      obtain ⟨L', rfl, pm2⟩ := perm_map pm rfl
      exact q _ _ _ _ _ (none_back p1 hl) upd_same (r1.laid hl) (r2.mono (hd_laid hl)) (p1.trans (.grow (Ex.new hl))) (h L' pm2 (pw_rp r2 h2))
end
end Dn
set_option Elab.async false
set_option linter.all false
set_option maxRecDepth 100000
set_option autoImplicit false
set_option maxHeartbeats 4000000
/-! {k: v for x in xs}; min(l), l.index(x); l * n -/
namespace Dn
open PySem L2 Evl PySem.Spec PyProof.Rows
section
variable {X : Cx} {a b c e : Expr} {fa fb fc : DE} {pos p : Pos} {es : List Expr} {x y : Str}
def wpDc (g : DG) (tt : DT) (tk te : DE) (vs : List Nat) (Q : List (Key × D) → Env → Prop) : List D → List (Key × D) → Env → Prop
  | [], acc, ρ => Q acc ρ
  | d :: ds, acc, ρ => acc.length < 16777216 ∧ g d (wipeD ρ vs) fun ρ1 => tt ρ1 fun b ρ2 => if b = true then tk ρ2 fun yk ρk => te ρk fun y ρ3 => ∃ k, keyD yk = some k ∧ wpDc g tt tk te vs Q ds (putD acc k y) (wipeD ρ3 vs) else wpDc g tt tk te vs Q ds acc (wipeD ρ2 vs)
abbrev DDc := Env → (List (Key × D) → Env → Prop) → Prop
def lDc (fi : DL) (g : DG) (tt : DT) (tk te : DE) (vs : List Nat) : DDc := fun ρ Q => fi ρ fun ds ρ1 => wpDc g tt tk te vs Q ds [] (wipeD ρ1 vs)
def dOfK (f : DDc) : DE := fun ρ Q => f ρ fun kvs => Q (.dict (dkD kvs))
def xOwK (f : DDc) : DX := fun ρ Q => f ρ fun kvs => Q (.ow (.dct kvs))
theorem dc_read {tg iter : Expr} {vs : List Nat} {fi : DL} {g : DG} {tt : DT} {tk te : DE} (hi : JI X tg iter fi) : ∃ wi, PI X tg iter wi ∧ ∀ (T : Addr → Prop) (ρ : Env) (σ : L2.St) (H : Hp) (QD : List (Key × D) → Env → Prop) (Q : VK), RS X.K T ρ σ H → lDc fi g tt tk te vs ρ QD →
    (∀ ds ρ' p vs H', H p = none → H' p = some (.dK vs) → RS X.K (plus T p) ρ' σ H' → KvRp X.K (hide (Hd (plus T p) ρ' σ) H') ds vs → Po ρ σ H ρ' σ H' → QD ds ρ' → Q (.ref p) H') → tDc wi (tgOf X.K vs g) (ttOf X.K tt) (teOf X.K tk) (teOf X.K te) vs σ H Q := by
  obtain ⟨wi, pi, ki⟩ := hi.ex
  refine ⟨wi, pi, fun T ρ σ H QD Q r h q => ki T ρ σ H _ _ r h fun ds ρ1 J H1 r1 p1 it h => ?_⟩
  intro L hL
  -- kept: what was known at the start stands apart from the new list
  refine ⟨fun i m H' => i ≤ ds.length ∧ m = ds.length - i ∧ ∃ ρ' acc us, ρ' = wipeD ρ' vs ∧ RS X.K (plus T L) ρ' (wipe σ vs) H' ∧ Po ρ1 σ H1 ρ' (wipe σ vs) H' ∧ H' L = some (.dK us) ∧ KvRp X.K (hide (Hd (plus T L) ρ' (wipe σ vs)) H') acc us ∧ wpDc g tt tk te vs QD (ds.drop i) acc ρ',
    ⟨ds.length, Nat.zero_le _, rfl, wipeD ρ1 vs, [], [], (wipeD_idem vs).symm, (r1.laid hL).wiped vs, (Po.grow (Ex.new hL)).trans (.wiped vs), upd_same, (Paired.nil : KvRp X.K _ [] []), h⟩, ?_⟩
  rintro i m H' ⟨hi, rfl, ρ', acc, us, ew, r', p', hl, ra, h⟩
  have eG : Ex (hide (Hd T ρ1 σ) H1) H' := (p'.fz (T := T)).trans hide_ex
  by_cases hlt : i < ds.length
  · rw [List.drop_eq_getElem_cons hlt] at h
    obtain ⟨hz, h⟩ := h
    obtain ⟨go, st⟩ := it.step i ds[i] H' (List.getElem?_eq_getElem hlt) eG
    refine .inr ⟨go, fun H2 => ∃ ρ2 acc us, ρ2 = wipeD ρ2 vs ∧ RS X.K (plus T L) ρ2 (wipe σ vs) H2 ∧ Po ρ1 σ H1 ρ2 (wipe σ vs) H2 ∧ H2 L = some (.dK us) ∧ KvRp X.K (hide (Hd (plus T L) ρ2 (wipe σ vs)) H2) acc us ∧ wpDc g tt tk te vs QD (ds.drop (i + 1)) acc ρ2,
      fun H2 w => ⟨ds.length - (i + 1), by omega, by omega, rfl, w⟩, fun v H2 hy => ?_⟩
    obtain ⟨ex, rv⟩ := st v H2 hy
    rw [← ew] at h
    have r2 := r'.grow ex
    have pa2 := p'.trans (Po.grow (ρ := ρ') (σ := wipe σ vs) ex)
    have ra2 := ra.mono (hide_grow (O := Hd (plus T L) ρ' (wipe σ vs)) ex)
    have nL : H1 L = none := hL
    have eO : Ex (hide (Hd T ρ1 σ) H1) (hide (Hd (plus T L) ρ' (wipe σ vs)) H') := fun a o w => by
      obtain ⟨n, w⟩ := hide_some.1 w
      obtain ⟨n2, w2⟩ := hide_some.1 ((p'.fz (T := T)) a o (hide_some.2 ⟨n, w⟩))
      refine hide_some.2 ⟨?_, w2⟩
      rintro ((t | t) | t)
      · subst t; rw [nL] at w; cases w
      · exact n2 (.inl t)
      · exact n2 (.inr t)
    refine ⟨plus T L, ρ', ds[i], _, r2, rv _ (fun a => r'.hdDom) eO, h, fun ρ3 σ3 r3 p3 w3 h => ⟨by rw [w3]; exact wipe_idem σ vs, plus T L, ρ3, _, r3, h, fun b ρ4 H4 r4 p4 h => ?_⟩⟩
    -- the new list is never the block's own
    have keepL : ∀ {ρa : Env} {σa : L2.St} {Ha Hb : Hp} {ρb : Env} {σb : L2.St} {o : HO}, RS X.K (plus T L) ρa σa Ha → Po ρa σa Ha ρb σb Hb → Ha L = some o → Hb L = some o := fun ra pab hh => pab.keep L _ (ra.dis L (.inl rfl)) hh
    have l4 : H4 L = some (.dK us) := keepL r2 (p3.trans p4) (ex _ _ hl)
    have ra4 := ra2.mono (((p3.trans p4)).fz (T := plus T L))
    have back : ∀ {ρ5 : Env} {H5 : Hp}, RS X.K (plus T L) ρ5 σ3 H5 → RS X.K (plus T L) (wipeD ρ5 vs) (wipe σ vs) H5 := fun {ρ5 H5} r5 => by
      have z := r5.wiped vs
      rw [w3, wipe_idem] at z
      exact z
    have pback : ∀ {ρ5 : Env} {H5 : Hp}, Po ρ1 σ H1 ρ5 σ3 H5 → Po ρ1 σ H1 (wipeD ρ5 vs) (wipe σ vs) H5 := fun {ρ5 H5} p5 => by
      have z := p5.trans (Po.wiped (ρ := ρ5) (σ := σ3) (H := H5) vs)
      rw [w3, wipe_idem] at z
      exact z
    cases b with
    | false =>
      refine ⟨wipeD ρ4 vs, acc, us, (wipeD_idem vs).symm, back r4, pback (pa2.trans (p3.trans p4)), l4, ?_, h⟩
      have z := ra4.mono ((Po.wiped (ρ := ρ4) (σ := σ3) (H := H4) vs).fz (T := plus T L))
      rw [w3, wipe_idem] at z
      exact z
    | true =>
      rw [if_pos rfl] at h
      dsimp only
      rw [if_pos rfl]
      refine ⟨plus T L, ρ4, _, r4, h, fun yk ρk wk' Hk rk pk vk h => ?_⟩
      refine ⟨plus T L, ρk, _, rk, h, fun y ρ5 w H5 r5 p5' v5 h => ?_⟩
      obtain ⟨ky, hky, h⟩ := h
      obtain rfl := keyD_rp vk hky
      have p5 := pk.trans p5'
      have l5 : H5 L = some (.dK us) := keepL r4 p5 l4
      have ra5 := KvRp.put (ra4.mono (p5.fz (T := plus T L))) ky v5
      have aL : ∀ (o : HO), Ex (hide (Hd (plus T L) ρ5 σ3) H5) (hide (Hd (plus T L) ρ5 σ3) (upd H5 L o)) := fun o a u w => by
        obtain ⟨n, w⟩ := hide_some.1 w
        exact hide_some.2 ⟨n, by rw [upd_ne (fun z => n (.inl (.inl z)))]; exact w⟩
      have r6 : RS X.K (plus T L) ρ5 σ3 (upd H5 L (.dK (putK us ky w))) := by
        refine ⟨r5.len, fun j d z => ?_, fun j m z => ?_, r5.inj, r5.dis, fun a t => ?_, r5.tag⟩
        · obtain ⟨u, h1, h2⟩ := r5.im j d z; exact ⟨u, h1, h2.mono (aL _)⟩
        · obtain ⟨a, o, h1, h2, h3⟩ := r5.ow j m z
          have ne : a ≠ L := fun e => by subst e; exact r5.dis a (.inl rfl) ⟨j, m, z, h1⟩
          exact ⟨a, o, h1, by rw [upd_ne ne]; exact h2, h3.mono (aL _)⟩
        · by_cases e : a = L
          · subst e; exact Lv.at fun _ z => nomatch z
          · exact (r5.dom a t).upd e
      have p6 : Po ρ1 σ H1 ρ5 σ3 (upd H5 L (.dK (putK us ky w))) := by
        have z := (pa2.trans (p3.trans p4)).trans p5
        refine ⟨fun a o n hh => ?_, z.own, fun a hh => ?_⟩
        · rw [upd_ne (fun e => by subst e; rw [nL] at hh; cases hh)]; exact z.keep a o n hh
        · by_cases e : a = L
          · subst e; rw [upd_same]; simp
          · rw [upd_ne e]; exact z.dom a hh
      refine ⟨us, ky, rfl, l5, by rw [← ra.len]; exact hz, wipeD ρ5 vs, putD acc ky y, putK us ky w, (wipeD_idem vs).symm, back r6, pback p6, upd_same, ?_, h⟩
      have z := (ra5.mono (aL (.dK (putK us ky w)))).mono ((Po.wiped (ρ := ρ5) (σ := σ3) (H := upd H5 L (.dK (putK us ky w))) vs).fz (T := plus T L))
      rw [w3, wipe_idem] at z
      exact z
  · have e : i = ds.length := by omega
    subst e
    rw [List.drop_length] at h
    refine .inl ⟨it.stop H' eG, ?_⟩
    rw [ew] at r' p' ra h
    refine q acc (wipeD ρ' vs) L us H' (none_back p1 hL) hl r'.unwipe (ra.mono ?_) ?_ h
    · exact hide_sub fun a w => w.elim .inl fun w => .inr (own_unwipe w)
    · exact p1.trans ⟨p'.keep, fun a w => p'.own a (own_unwipe w), p'.dom⟩
theorem je_dc {kx vx tg iter : Expr} {ifs : List Expr} {scope : Scope} {own : List (Str × Nat)} {fi : DL} {g : DG} {tt : DT} {tk te : DE} (hc : X.calm = true) (hN : X.N.Nodup) (hi : JI X tg iter fi) (ok : BlkOk X.N X.env.scope scope own)
    (hg : ∀ (s : Shared) (H : Hp) (C : Addr) (cl : List (Str × Addr)) (fp : List Addr), JG (X.blk s H scope (compEnvC scope cl C X.env) fp) tg (own.map (·.2)) g) (ht : ∀ (s : Shared) (H : Hp) (C : Addr) (cl : List (Str × Addr)) (fp : List Addr), JTs (X.blk s H scope (compEnvC scope cl C X.env) fp) ifs tt)
    (hk : ∀ (s : Shared) (H : Hp) (C : Addr) (cl : List (Str × Addr)) (fp : List Addr), JE (X.blk s H scope (compEnvC scope cl C X.env) fp) kx tk)
    (he : ∀ (s : Shared) (H : Hp) (C : Addr) (cl : List (Str × Addr)) (fp : List Addr), JE (X.blk s H scope (compEnvC scope cl C X.env) fp) vx te) (hs : ∀ x, foldedSetIterable iter X.env x = pure x := by intro _; rfl) :
    JE X (.DictComp kx vx [⟨tg, iter, ifs, 0⟩] scope pos) (dOfK (lDc fi g tt tk te (own.map (·.2)))) := by
  obtain ⟨wi, pi, k⟩ := dc_read (vs := own.map (·.2)) (g := g) (tt := tt) (tk := tk) (te := te) hi
  refine ⟨_, pe_dc (wi := wi) (g := tgOf X.K (own.map (·.2)) g) (tt := ttOf X.K tt) (tk := teOf X.K tk) (tv := teOf X.K te) hc hN pi ok (fun s H C cl fp => (hg s H C cl fp).pg) (fun s H C cl fp => (ht s H C cl fp).pts) (fun s H C cl fp => (hk s H C cl fp).pe) (fun s H C cl fp => (he s H C cl fp).pe) hs, fun T ρ σ H QD Q r h q => ?_⟩
  refine k T ρ σ H _ _ r h fun kvs ρ' l kws H' n s r' v' p' h' => ?_
  refine q _ _ _ _ r'.unplus p' (.dct (hide_some.2 ⟨?_, s⟩) (KvRp.rp (v'.mono hd_unplus)) rfl) h'
  rintro (w | w)
  · exact (r.dom l w).1 n
  · exact r'.dis l (.inl rfl) w
/-! ### min(l), ints; l * n -/
def dMinL : List D → (D → Prop) → Prop := fun ds Q => ∃ ns : List Int, ds = [.list (ns.map PyData.int)] ∧ ns ≠ [] ∧ ∀ m, m ∈ ns → (∀ z, z ∈ ns → m ≤ z) → Q (.int m)
theorem calld_minL (hc : X.calm = true) : CallD X (.builtin "min") dMinL := by
  refine ⟨_, cr_min hc, fun O H vs ds QD Q hO r h k => ?_⟩
  obtain ⟨ns, rfl, hne, h⟩ := h
  obtain ⟨v, rfl, w1⟩ := rp1 r
  cases w1 with
  | lst hp rr =>
    obtain rfl := rr.of_ints
    exact ⟨_, ns, rfl, .inl (.inl (at_of hp)), List.length_pos_iff.mpr hne, fun m h1 h2 => k _ _ H (.refl H) (.int _) (h m h1 h2)⟩
/-- l.index(x): ints -/
def dIndex (fa fb : DE) : DE := fun ρ Q => fa ρ fun z ρ1 => (∃ ds, z = .list ds) ∧ fb ρ1 fun y ρ2 => ∃ (ns : List Int) (n : Int) (j : Nat), z = .list (ns.map PyData.int) ∧ y = .int n ∧ ns[j]? = some n ∧ (∀ m : Nat, m < j → ns[m]? ≠ some n) ∧ Q (.int (j : Nat)) ρ2
theorem je_index {apos cpos : Pos} (ha : JE X a fa) (hb : JE X b fb)
    (hbase : attributeBase a "index" X.env (eval a X.env) = eval a X.env := by rfl)
    (hfew : ((backTo cpos (starEach [b] X.env)).all (fun x => !x.1) && (backToKw cpos (keywordEach [] X.env)).all (fun x => x.1.isSome)
      && decide (([b] : List Expr).length + ([] : List Keyword).length + (if ([] : List Keyword).isEmpty then 0 else 1) < 30)) = true := by rfl)
    (hline : (apos.endLine == cpos.line) = true := by rfl) (hs : starEach [b] X.env = (false, eval b X.env) :: starEach [] X.env := by rfl) (hplain : (backTo cpos (starEach [] X.env)).any (·.1) = false := by rfl) :
    JE X (.Call (.Attribute a "index" apos) [b] [] cpos) (dIndex fa fb) := by
  obtain ⟨ta, pa, ka⟩ := ha.ex
  obtain ⟨tb, pb, kb⟩ := hb.ex
  refine ⟨_, pe_bm PySem.F.plainAttrs_list PySem.F.slot_list_index (by kernel_rfl) mt_index pa (pa_cons pb pa_nil hs) hbase hfew hline hs hplain, fun T ρ σ H QD Q r h q => ka T ρ σ H _ _ r h fun z ρ1 v H1 r1 p1 v1 h => ?_⟩
  obtain ⟨⟨ds0, e0⟩, h⟩ := h
  subst e0
  cases v1 with
  | lst hp rr =>
    refine ⟨.inl ⟨rfl, _, .inl (.inl (at_of hp))⟩, kb T ρ1 σ H1 _ _ r1 h fun y ρ2 w H2 r2 p2 v2 h => ?_⟩
    obtain ⟨ns, n, j, e, rfl, h1, h2, h9⟩ := h
    cases e
    cases v2
    obtain rfl := rr.of_ints
    have hp2 := (p2.fz (T := T)) _ _ hp
    refine ⟨_, _, _, j, .int n, rfl, rfl, .inl (.inl (at_of hp2)), rfl, ?_, by rw [List.getElem?_map, h1]; rfl, by simp [eqV], fun m z' hm hz => ?_, q _ _ _ _ r2 (p1.trans p2) (.int _) h9⟩
    · rw [List.all_map]; exact List.all_eq_true.mpr fun _ _ => rfl
    · rw [List.getElem?_map] at hz
      obtain ⟨k, hk, rfl⟩ := Option.map_eq_some_iff.mp hz
      have : k ≠ n := fun z => h2 m hm (by rw [hk, z])
      simp [eqV, this]
/-- l * n, a new list -/
def lRep (fa fb : DE) : DL := fun ρ Q => fa ρ fun z ρ1 => fb ρ1 fun y ρ2 => ∃ (ds : List D) (n : Int), z = .list ds ∧ y = .int n ∧ 0 ≤ n ∧ n ≤ 1000 ∧ ds.length ≤ 1000 ∧ Q (List.replicate n.toNat ds).flatten ρ2
theorem jl_rep (ha : JE X a fa) (hb : JE X b fb) : JL X (.BinOp a .Mult b pos) (lRep fa fb) := by
  obtain ⟨ta, pa, ka⟩ := ha.ex
  obtain ⟨tb, pb, kb⟩ := hb.ex
  refine ⟨_, pe_op op_rep pa pb, fun T ρ σ H QD Q r h q => ka T ρ σ H _ _ r h fun z ρ1 v H1 r1 p1 v1 h => kb T ρ1 σ H1 _ _ r1 h fun y ρ2 w H2 r2 p2 v2 h => ?_⟩
  obtain ⟨ds, n, rfl, rfl, h1, h2, h3, h⟩ := h
  cases v2
  have v1' := v1.mono p2.fz
  cases v1' with
  | lst hp rr =>
    refine ⟨_, _, _, rfl, rfl, at_of hp, by omega, by omega, ?_, fun l hl => q _ _ _ _ _ (none_back (p1.trans p2) hl) upd_same (r2.laid hl) ((rr.rep _).mono (hd_laid hl)) ((p1.trans p2).trans (.grow (Ex.new hl))) h⟩
    rw [rr.length]
    have : ds.length * n.toNat ≤ 1000 * 1000 := Nat.mul_le_mul h3 (by omega)
    rw [sizeLine_eq]
    omega
/-- f(..), f a module's name for a built-in function -/
theorem je_callBf {id : String} {op : List D → (D → Prop) → Prop} {g : DA} (hc : CallD X (.builtin id) op) (hm : X.mg x = some (.builtin id)) (ha : JA X (e :: es) g) (hg : Gl X x := by rfl) (hdb : (x == ("__debug__" : Str)) = false := by decide)
    (he : starEach (e :: es) X.env = (false, eval e X.env) :: starEach es X.env := by rfl) (hpl : (backTo pos (starEach es X.env)).any (·.1) = false := by rfl) : JE X (.Call (.Name x p) (e :: es) [] pos) (dCall op g) := by
  obtain ⟨r, h1, h2⟩ := hc.ex
  obtain ⟨t, pa, ka⟩ := ha.ex
  refine ⟨_, pe_callBfun h1 hg hm pa hdb he hpl, fun T ρ σ H QD Q r h q => ka T ρ σ H _ _ r h fun ds ρ1 vs H1 r1 p1 v1 h => ?_⟩
  exact h2 (Hd T ρ1 σ) H1 vs ds _ _ (fun a => r1.hdDom) v1 h fun z v H' e v2 h => q _ _ _ _ (r1.grow e) (p1.trans (.grow e)) v2 h
def dLcm : List D → (D → Prop) → Prop
  | [.int i, .int j] => fun Q => i.natAbs < 2 ^ 64 ∧ j.natAbs < 2 ^ 64 ∧ Q (.int ((Nat.lcm i.natAbs j.natAbs : Nat) : Int))
  | _ => fun _ => False
theorem calld_lcm : CallD X (.builtin "math.lcm") dLcm := by
  refine ⟨_, cr_lcm, fun O H vs ds QD Q hO r h k => ?_⟩
  unfold dLcm at h
  split at h
  · obtain ⟨v, u, rfl, r1, r2⟩ := rp2 r
    cases r1; cases r2
    exact ⟨_, _, rfl, h.1, h.2.1, k _ _ H (.refl H) (.int _) h.2.2⟩
  · exact False.elim h
end
end Dn
set_option Elab.async false
set_option linter.all false
set_option maxRecDepth 100000
set_option autoImplicit false
set_option maxHeartbeats 4000000
/-! Moves done again and again: periods, cycles, orders. -/
namespace Dn
open PySem L2 Evl PySem.Spec PyProof.Rows
abbrev Mv (n : Nat) (m : List Int) : Prop := List.Perm m (rgI n)
def it (m : List Int) : Nat → Int → Int
  | 0, x => x
  | k + 1, x => im m (it m k x)
def jn (a b : List Int) : List Int := b.map (im a)
def iv (m : List Int) (y : Int) : Int := ((m.findIdx fun x => decide (x = y) : Nat) : Int)
def inv (m : List Int) : List Int := (rgI m.length).map (iv m)
def per (m : List Int) (n : Nat) (x : Int) : Nat := match (List.range n).find? fun k => decide (it m (k + 1) x = x) with
  | some k => k + 1
  | none => 1
def cyc (m : List Int) (n : Nat) (x : Int) : List Int := (List.range (per m n x)).map fun k => it m k x
def lead (m : List Int) (n : Nat) (x : Int) : Bool := (cyc m n x).all fun y => decide (x ≤ y)
def leads (m : List Int) (n : Nat) : List Int := (rgI n).filter (lead m n)
def cs (m : List Int) (n : Nat) : List (List Int) := (leads m n).map (cyc m n)
def ord (m : List Int) (n : Nat) : Nat := ((cs m n).map (·.length)).foldl Nat.lcm 1
theorem Mv.len {n : Nat} {m : List Int} (h : Mv n m) : m.length = n := by rw [h.length_eq, rgI_len]
theorem it_add (m : List Int) (a b : Nat) (x : Int) : it m (a + b) x = it m a (it m b x) := by
  induction a with
  | zero => rw [Nat.zero_add]; rfl
  | succ a ih => rw [Nat.succ_add]; show im m (it m (a + b) x) = im m _; rw [ih]
section
variable {n : Nat} {m : List Int} (h : Mv n m)
theorem perm_of_nodup {l l' : List Int} (nd : l.Nodup) (nd' : l'.Nodup) (e : ∀ x, x ∈ l ↔ x ∈ l') : l.Perm l' := (List.perm_ext_iff_of_nodup nd nd').2 e
include h in
theorem it_rng {x : Int} (hx : 0 ≤ x ∧ x < n) (k : Nat) : 0 ≤ it m k x ∧ it m k x < n := by
  induction k with
  | zero => exact hx
  | succ k ih => exact im_in h ih.1 ih.2
include h in
theorem it_inj {x y : Int} (hx : 0 ≤ x ∧ x < n) (hy : 0 ≤ y ∧ y < n) {k : Nat} (e : it m k x = it m k y) : x = y := by
  induction k with
  | zero => exact e
  | succ k ih =>
    have a := it_rng h hx k
    have b := it_rng h hy k
    exact ih (im_inj h a.1 a.2 b.1 b.2 e)
include h in
theorem per_spec {x : Int} (hx : 0 ≤ x ∧ x < n) : 1 ≤ per m n x ∧ per m n x ≤ n ∧ it m (per m n x) x = x ∧ ∀ j, 0 < j → j < per m n x → it m j x ≠ x := by
  unfold per
  cases e : (List.range n).find? fun k => decide (it m (k + 1) x = x) with
  | some k =>
    have h1 := List.find?_some e
    have h2 := List.mem_of_find?_eq_some e
    simp at h1 h2
    show 1 ≤ k + 1 ∧ k + 1 ≤ n ∧ it m (k + 1) x = x ∧ ∀ j, 0 < j → j < k + 1 → it m j x ≠ x
    refine ⟨by omega, by omega, h1, fun j j0 j1 z => ?_⟩
    obtain ⟨_, as, bs, e2, hn⟩ := List.find?_eq_some_iff_append.mp e
    have hj : j - 1 ∈ as := by
      have hl : as.length = k := by
        have := congrArg (fun l : List Nat => l[as.length]?) e2
        rw [List.getElem?_append_right (Nat.le_refl _)] at this
        simp at this
        by_cases hh : as.length < n
        · rw [List.getElem?_range hh] at this; simpa using this
        · have h3 := congrArg List.length e2
          simp at h3
          omega
      have := congrArg (fun l : List Nat => l[j - 1]?) e2
      rw [List.getElem?_append_left (by omega), List.getElem?_range (by omega)] at this
      exact List.mem_of_getElem? this.symm
    have := hn (j - 1) hj
    rw [show j - 1 + 1 = j by omega] at this
    simp [z] at this
  | none =>
    exfalso
    have hn := List.find?_eq_none.mp e
    have nd : ((List.range (n + 1)).map fun k => it m k x).Nodup := by
      rw [List.Nodup, List.pairwise_map]
      refine List.Pairwise.imp_of_mem (R := (· < ·)) (fun {a b} ha hb lt z => ?_) List.pairwise_lt_range
      have hb2 := List.mem_range.mp hb
      have e1 : it m b x = it m a (it m (b - a) x) := by rw [← it_add]; congr 1; omega
      rw [e1] at z
      have := it_inj h hx (it_rng h hx (b - a)) z
      have h3 := hn (b - a - 1) (List.mem_range.mpr (by omega))
      rw [show b - a - 1 + 1 = b - a by omega] at h3
      simp at h3
      exact h3 this.symm
    have := nodup_le nd (ns := rgI n) fun k hk => by
      obtain ⟨j, _, rfl⟩ := List.mem_map.mp hk
      exact mem_rgI.mpr (it_rng h hx j)
    rw [rgI_len] at this
    simp at this
    omega
include h in
theorem it_mod {x : Int} (hx : 0 ≤ x ∧ x < n) (k : Nat) : it m k x = it m (k % per m n x) x := by
  obtain ⟨p1, _, p3, _⟩ := per_spec h hx
  have mul : ∀ q : Nat, it m (per m n x * q) x = x := by
    intro q
    induction q with
    | zero => rfl
    | succ q ih => rw [Nat.mul_succ, Nat.add_comm, it_add, ih, p3]
  conv => lhs; rw [← Nat.mod_add_div k (per m n x), it_add, mul]
include h in
theorem per_dvd {x : Int} (hx : 0 ≤ x ∧ x < n) {k : Nat} : it m k x = x ↔ per m n x ∣ k := by
  obtain ⟨p1, _, p3, p4⟩ := per_spec h hx
  rw [it_mod h hx k, Nat.dvd_iff_mod_eq_zero]
  constructor
  · intro e
    by_cases z : k % per m n x = 0
    · exact z
    · exact absurd e (p4 _ (by omega) (Nat.mod_lt _ (by omega)))
  · intro e; rw [e]; rfl
theorem mem_cyc {x y : Int} : y ∈ cyc m n x ↔ ∃ k, k < per m n x ∧ y = it m k x := by
  unfold cyc
  simp only [List.mem_map, List.mem_range]
  constructor
  · rintro ⟨k, hk, rfl⟩; exact ⟨k, hk, rfl⟩
  · rintro ⟨k, hk, rfl⟩; exact ⟨k, hk, rfl⟩
include h in
theorem mem_cyc' {x : Int} (hx : 0 ≤ x ∧ x < n) (k : Nat) : it m k x ∈ cyc m n x :=
  mem_cyc.2 ⟨k % per m n x, Nat.mod_lt _ (by have := (per_spec h hx).1; omega), it_mod h hx k⟩
include h in
theorem cyc_rng {x y : Int} (hx : 0 ≤ x ∧ x < n) (hy : y ∈ cyc m n x) : 0 ≤ y ∧ y < n := by
  obtain ⟨k, _, rfl⟩ := mem_cyc.1 hy
  exact it_rng h hx k
include h in
theorem cyc_self {x : Int} (hx : 0 ≤ x ∧ x < n) : x ∈ cyc m n x := mem_cyc' h hx 0
include h in
theorem cyc_symm {x y : Int} (hx : 0 ≤ x ∧ x < n) (hy : y ∈ cyc m n x) : x ∈ cyc m n y := by
  obtain ⟨k, hk, rfl⟩ := mem_cyc.1 hy
  have e : it m (per m n x - k) (it m k x) = x := by
    rw [← it_add, show per m n x - k + k = per m n x by omega]
    exact (per_spec h hx).2.2.1
  have := mem_cyc' h (it_rng h hx k) (per m n x - k)
  rw [e] at this
  exact this
include h in
theorem cyc_trans {x y z : Int} (hx : 0 ≤ x ∧ x < n) (hy : y ∈ cyc m n x) (hz : z ∈ cyc m n y) : z ∈ cyc m n x := by
  obtain ⟨k, _, rfl⟩ := mem_cyc.1 hy
  obtain ⟨j, _, rfl⟩ := mem_cyc.1 hz
  rw [← it_add]
  exact mem_cyc' h hx _
include h in
theorem per_cyc {x y : Int} (hx : 0 ≤ x ∧ x < n) (hy : y ∈ cyc m n x) : per m n y = per m n x := by
  have le : ∀ {x y : Int}, (0 ≤ x ∧ x < n) → y ∈ cyc m n x → per m n y ∣ per m n x := fun {x y} hx hy => by
    have ry := cyc_rng h hx hy
    obtain ⟨k, _, rfl⟩ := mem_cyc.1 hy
    refine (per_dvd h ry).1 ?_
    rw [← it_add, Nat.add_comm, it_add, (per_spec h hx).2.2.1]
  exact Nat.dvd_antisymm (le hx hy) (le (cyc_rng h hx hy) (cyc_symm h hx hy))
include h in
theorem cyc_nodup {x : Int} (hx : 0 ≤ x ∧ x < n) : (cyc m n x).Nodup := by
  unfold cyc
  rw [List.Nodup, List.pairwise_map]
  refine List.Pairwise.imp_of_mem (R := (· < ·)) (fun {a b} ha hb lt z => ?_) List.pairwise_lt_range
  have hb2 := List.mem_range.mp hb
  have e1 : it m b x = it m a (it m (b - a) x) := by rw [← it_add]; congr 1; omega
  rw [e1] at z
  have := it_inj h hx (it_rng h hx (b - a)) z
  exact (per_spec h hx).2.2.2 (b - a) (by omega) (by omega) this.symm
theorem exists_min : ∀ {l : List Int}, l ≠ [] → ∃ z, z ∈ l ∧ ∀ y, y ∈ l → z ≤ y
  | [], h => absurd rfl h
  | [x], _ => ⟨x, by simp, by simp⟩
  | x :: y :: l, _ => by
    obtain ⟨z, hz, hm⟩ := exists_min (l := y :: l) (by simp)
    by_cases e : x ≤ z
    · exact ⟨x, by simp, fun w hw => by
        rcases List.mem_cons.mp hw with rfl | hw
        · exact Int.le_refl _
        · have := hm w hw; omega⟩
    · exact ⟨z, by simp [List.mem_cons.mp hz], fun w hw => by
        rcases List.mem_cons.mp hw with rfl | hw
        · omega
        · exact hm w hw⟩
theorem cyc_ne {x : Int} (hp : 1 ≤ per m n x) : cyc m n x ≠ [] := by
  unfold cyc
  intro z
  have := congrArg List.length z
  simp at this
  omega
theorem lead_iff {x : Int} : lead m n x = true ↔ ∀ y, y ∈ cyc m n x → x ≤ y := by
  unfold lead
  simp
include h in
/-- each thing has a leader -/
theorem has_lead {x : Int} (hx : 0 ≤ x ∧ x < n) : ∃ z, z ∈ cyc m n x ∧ lead m n z = true ∧ z ≤ x := by
  obtain ⟨z, hz, hm⟩ := exists_min (cyc_ne (m := m) (n := n) (x := x) (per_spec h hx).1)
  exact ⟨z, hz, lead_iff.2 fun y hy => hm y (cyc_trans h hx hz hy), hm x (cyc_self h hx)⟩
include h in
theorem not_lead {x : Int} (hx : 0 ≤ x ∧ x < n) : (∃ s, (0 ≤ s ∧ s < x) ∧ lead m n s = true ∧ x ∈ cyc m n s) ↔ lead m n x = false := by
  constructor
  · rintro ⟨s, hs, _, hxs⟩
    have := cyc_symm h (by omega) hxs
    cases e : lead m n x with
    | false => rfl
    | true => have := lead_iff.1 e s this; omega
  · intro e
    obtain ⟨z, hz, hl, hle⟩ := has_lead h hx
    have rz := cyc_rng h hx hz
    refine ⟨z, ⟨rz.1, ?_⟩, hl, cyc_symm h hx hz⟩
    by_cases w : z = x
    · rw [w, e] at hl; cases hl
    · omega
theorem rgI_split {l1 l2 : List Int} {x : Int} (e : rgI n = l1 ++ x :: l2) : x = l1.length ∧ l1 = rgI l1.length := by
  have hl := congrArg List.length e
  rw [rgI_len] at hl
  simp at hl
  have h1 := congrArg (fun l : List Int => l[l1.length]?) e
  rw [rgI_get (by omega), List.getElem?_append_right (Nat.le_refl _)] at h1
  simp at h1
  refine ⟨h1.symm, ?_⟩
  have h2 := congrArg (List.take l1.length) e
  rw [List.take_left] at h2
  rw [← h2]
  unfold rgI
  rw [← List.map_take, List.take_range]
  congr 2
  simp
include h in
theorem leads_mem {x : Int} : x ∈ leads m n ↔ (0 ≤ x ∧ x < n) ∧ lead m n x = true := by
  unfold leads
  rw [List.mem_filter, mem_rgI]
theorem leads_nodup : (leads m n).Nodup := (nodup_rgI n).filter _
theorem pw_rgI (n : Nat) : (rgI n).Pairwise (· < ·) := by
  unfold rgI
  rw [List.pairwise_map]
  exact List.pairwise_lt_range.imp fun h => by omega
theorem leads_pw : (leads m n).Pairwise (· < ·) := (pw_rgI n).filter _
include h in
theorem leads_apart {s t x : Int} (hs : s ∈ leads m n) (ht : t ∈ leads m n) (h1 : x ∈ cyc m n s) (h2 : x ∈ cyc m n t) : s = t := by
  obtain ⟨rs, ls⟩ := (leads_mem h).1 hs
  obtain ⟨rt, lt⟩ := (leads_mem h).1 ht
  have a := cyc_trans h rs h1 (cyc_symm h rt h2)
  have b := lead_iff.1 ls t a
  have c := lead_iff.1 lt s (cyc_symm h rs a)
  omega
include h in
theorem flat_le : ((cs m n).map (·.length)).sum ≤ n := by
  have nd : (cs m n).flatten.Nodup := by
    rw [List.Nodup, List.pairwise_flatten]
    refine ⟨fun l hl => ?_, ?_⟩
    · obtain ⟨s, hs, rfl⟩ := List.mem_map.mp hl
      exact cyc_nodup h ((leads_mem h).1 hs).1
    · unfold cs
      rw [List.pairwise_map]
      refine leads_pw.imp_of_mem fun {s t} hs ht lt x hx y hy z => ?_
      subst z
      have := leads_apart h hs ht hx hy
      omega
  have := nodup_le nd (ns := rgI n) fun k hk => by
    obtain ⟨l, hl, hk⟩ := List.mem_flatten.mp hk
    obtain ⟨s, hs, rfl⟩ := List.mem_map.mp hl
    exact mem_rgI.mpr (cyc_rng h ((leads_mem h).1 hs).1 hk)
  rw [rgI_len, List.length_flatten] at this
  exact this
theorem foldl_lcm_dvd (l : List Nat) : ∀ (a k : Nat), (l.foldl Nat.lcm a) ∣ k ↔ a ∣ k ∧ ∀ x, x ∈ l → x ∣ k := by
  induction l with
  | nil => intro a k; simp
  | cons y l ih =>
    intro a k
    rw [List.foldl_cons, ih]
    constructor
    · rintro ⟨h1, h2⟩
      exact ⟨Nat.dvd_trans (Nat.dvd_lcm_left _ _) h1, fun x hx => by
        rcases List.mem_cons.mp hx with rfl | hx
        · exact Nat.dvd_trans (Nat.dvd_lcm_right _ _) h1
        · exact h2 x hx⟩
    · rintro ⟨h1, h2⟩
      exact ⟨Nat.lcm_dvd h1 (h2 y (by simp)), fun x hx => h2 x (by simp [hx])⟩
theorem cyc_len (x : Int) : (cyc m n x).length = per m n x := by unfold cyc; simp
include h in
theorem ord_dvd {k : Nat} : ord m n ∣ k ↔ ∀ x : Int, 0 ≤ x → x < n → it m k x = x := by
  unfold ord
  rw [foldl_lcm_dvd]
  constructor
  · rintro ⟨_, h2⟩ x x0 x1
    obtain ⟨z, hz, hl, _⟩ := has_lead h ⟨x0, x1⟩
    have rz := cyc_rng h ⟨x0, x1⟩ hz
    refine (per_dvd h ⟨x0, x1⟩).2 ?_
    rw [← per_cyc h ⟨x0, x1⟩ hz]
    exact h2 _ (List.mem_map.mpr ⟨cyc m n z, List.mem_map.mpr ⟨z, (leads_mem h).2 ⟨rz, hl⟩, rfl⟩, cyc_len z⟩)
  · intro hk
    refine ⟨Nat.one_dvd _, fun y hy => ?_⟩
    obtain ⟨l, hl, rfl⟩ := List.mem_map.mp hy
    obtain ⟨s, hs, rfl⟩ := List.mem_map.mp hl
    have rs := ((leads_mem h).1 hs).1
    rw [cyc_len]
    exact (per_dvd h rs).1 (hk s rs.1 rs.2)
theorem lcm_le (l : List Nat) : ∀ a : Nat, l.foldl Nat.lcm a ≤ a * 2 ^ l.sum := by
  induction l with
  | nil => intro a; simp
  | cons y l ih =>
    intro a
    rw [List.foldl_cons, List.sum_cons]
    refine Nat.le_trans (ih _) ?_
    rw [Nat.pow_add, ← Nat.mul_assoc]
    refine Nat.mul_le_mul_right _ ?_
    refine Nat.le_trans (PySem.W.mc_lcm_le a y) (Nat.mul_le_mul_left _ ?_)
    exact Nat.le_of_lt Nat.lt_two_pow_self
theorem lcm_pos (l : List Nat) : ∀ a : Nat, 0 < a → (∀ x, x ∈ l → 0 < x) → 0 < l.foldl Nat.lcm a := by
  induction l with
  | nil => intro a h _; exact h
  | cons y l ih => intro a ha hl; exact ih _ (Nat.lcm_pos ha (hl y (by simp))) fun x hx => hl x (by simp [hx])
include h in
theorem cs_pos {x : Nat} (hx : x ∈ (cs m n).map (·.length)) : 0 < x := by
  obtain ⟨l, hl, rfl⟩ := List.mem_map.mp hx
  obtain ⟨s, hs, rfl⟩ := List.mem_map.mp hl
  show 0 < (cyc m n s).length
  rw [cyc_len]
  exact (per_spec h ((leads_mem h).1 hs).1).1
include h in
theorem ord_pos : 0 < ord m n := lcm_pos _ 1 (by decide) fun x hx => cs_pos h hx
/-- all lists of positive numbers with a sum of at most s -/
def comps : Nat → Nat → List (List Nat)
  | 0, _ => [[]]
  | f + 1, s => [] :: (List.range s).flatMap fun k => (comps f (s - (k + 1))).map ((k + 1) :: ·)
theorem mem_comps : ∀ (f : Nat) (l : List Nat) (s : Nat), s ≤ f → (∀ x, x ∈ l → 0 < x) → l.sum ≤ s → l ∈ comps f s
  | 0, [], _, _, _, _ => by simp [comps]
  | 0, x :: l, s, hf, hp, hs => by have := hp x (by simp); rw [List.sum_cons] at hs; omega
  | f + 1, [], _, _, _, _ => by simp [comps]
  | f + 1, x :: l, s, hf, hp, hs => by
    have hx := hp x (by simp)
    rw [List.sum_cons] at hs
    unfold comps
    refine List.mem_cons_of_mem _ (List.mem_flatMap.mpr ⟨x - 1, List.mem_range.mpr (by omega), ?_⟩)
    rw [show x - 1 + 1 = x by omega]
    exact List.mem_map.mpr ⟨l, mem_comps f l (s - x) (by omega) (fun y hy => hp y (by simp [hy])) (by omega), rfl⟩
theorem comps_ok : ((comps 12 12).all fun l => decide (l.foldl Nat.lcm 1 ≤ 100)) = true := by decide +kernel
include h in
theorem ord_le (hn : n ≤ 12) : ord m n ≤ 100 := by
  have := List.all_eq_true.mp comps_ok _ (mem_comps 12 ((cs m n).map (·.length)) 12 (Nat.le_refl _) (fun x hx => cs_pos h hx) (Nat.le_trans (flat_le h) hn))
  exact of_decide_eq_true this
end
end Dn
set_option Elab.async false
set_option linter.all false
set_option maxRecDepth 100000
set_option autoImplicit false
set_option maxHeartbeats 4000000
/-! Joined and undone moves; cycles of a move between a move and its undone one. -/
namespace Dn
open PySem L2 Evl PySem.Spec PyProof.Rows SrL
section
variable {n : Nat} {m a b o : List Int}
theorem Mv.nodup (h : Mv n m) : m.Nodup := h.nodup_iff.2 (nodup_rgI n)
theorem Mv.of {l : List Int} (hl : l.length = n) (nd : l.Nodup) (hr : ∀ x, x ∈ l → 0 ≤ x ∧ x < n) : Mv n l :=
  perm_of_nodup nd (nodup_rgI n) fun x => ⟨fun hx => mem_rgI.mpr (hr x hx), fun hx => nodup_onto nd (fun k hk => mem_rgI.mpr (hr k hk)) (by rw [rgI_len, hl]; exact Nat.le_refl _) hx⟩
theorem mv_map {f : Int → Int} (hr : ∀ x : Int, 0 ≤ x → x < n → 0 ≤ f x ∧ f x < n) (hi : ∀ x y : Int, 0 ≤ x → x < n → 0 ≤ y → y < n → f x = f y → x = y) : Mv n ((rgI n).map f) := by
  refine .of (by simp [rgI_len]) ?_ fun x hx => ?_
  · rw [List.Nodup, List.pairwise_map]
    refine (nodup_rgI n).imp_of_mem fun {x y} hx hy ne z => ne ?_
    have a := mem_rgI.mp hx
    have b := mem_rgI.mp hy
    exact hi x y a.1 a.2 b.1 b.2 z
  · obtain ⟨y, hy, rfl⟩ := List.mem_map.mp hx
    have a := mem_rgI.mp hy
    exact hr y a.1 a.2
theorem im_at (h : Mv n m) {k : Nat} (hk : k < n) : m[k]? = some (im m k) := by
  unfold im
  rw [Int.toNat_natCast, List.getD, List.getElem?_eq_getElem (by rw [h.len]; exact hk)]
  rfl
theorem mv_self (h : Mv n m) : m = (rgI n).map (im m) := by
  apply List.ext_getElem?
  intro k
  by_cases hk : k < n
  · rw [im_at h hk, List.getElem?_map, rgI_get hk]; rfl
  · rw [List.getElem?_eq_none_iff.mpr (by rw [h.len]; omega), List.getElem?_eq_none_iff.mpr (by simp [rgI_len]; omega)]
theorem im_map {f : Int → Int} {x : Int} (h0 : 0 ≤ x) (h1 : x < n) : im ((rgI n).map f) x = f x := by
  unfold im
  rw [List.getD, List.getElem?_map, rgI_get (show x.toNat < n by omega)]
  show f ((x.toNat : Nat) : Int) = f x
  congr 1
  omega
theorem map_ext {f g : Int → Int} (e : ∀ x : Int, 0 ≤ x → x < n → f x = g x) : (rgI n).map f = (rgI n).map g :=
  List.map_congr_left fun x hx => by have := mem_rgI.mp hx; exact e x this.1 this.2
theorem jn_map (hb : Mv n b) : jn a b = (rgI n).map fun x => im a (im b x) := by
  unfold jn
  conv => lhs; rw [mv_self hb]
  rw [List.map_map]; rfl
theorem jn_im (hb : Mv n b) {x : Int} (h0 : 0 ≤ x) (h1 : x < n) : im (jn a b) x = im a (im b x) := by rw [jn_map hb, im_map h0 h1]
theorem jn_mv (ha : Mv n a) (hb : Mv n b) : Mv n (jn a b) := by
  rw [jn_map hb]
  refine mv_map (fun x h0 h1 => ?_) fun x y x0 x1 y0 y1 e => ?_
  · have := im_in hb h0 h1
    exact im_in ha this.1 this.2
  · have p := im_in hb x0 x1
    have q := im_in hb y0 y1
    exact im_inj hb x0 x1 y0 y1 (im_inj ha p.1 p.2 q.1 q.2 e)
theorem iv_im (h : Mv n m) {x : Int} (h0 : 0 ≤ x) (h1 : x < n) : iv m (im m x) = x := by
  unfold iv
  have hk : x.toNat < m.length := by rw [h.len]; omega
  have e : im m x = m[x.toNat] := by
    have := im_at h (show x.toNat < n by omega)
    rw [show ((x.toNat : Nat) : Int) = x by omega, List.getElem?_eq_getElem hk, Option.some.injEq] at this
    exact this.symm
  have : m.findIdx (fun z => decide (z = im m x)) = x.toNat := by
    rw [List.findIdx_eq hk]
    refine ⟨by simp [e], fun j hj => ?_⟩
    simp only [decide_eq_false_iff_not]
    intro z
    rw [e] at z
    have := (List.getElem_inj h.nodup).mp z
    omega
  rw [this]
  omega
theorem iv_rng (h : Mv n m) {y : Int} (h0 : 0 ≤ y) (h1 : y < n) : (0 ≤ iv m y ∧ iv m y < n) ∧ im m (iv m y) = y := by
  have hm : y ∈ m := h.mem_iff.2 (mem_rgI.mpr ⟨h0, h1⟩)
  obtain ⟨k, hk, e⟩ := List.mem_iff_getElem.mp hm
  have hk2 : k < n := by rw [← h.len]; exact hk
  have e2 : im m k = y := by
    have := im_at h hk2
    rw [List.getElem?_eq_getElem hk, Option.some.injEq, e] at this
    exact this.symm
  have e3 := iv_im h (x := (k : Int)) (by omega) (by omega)
  rw [e2] at e3
  rw [e3]
  exact ⟨by omega, e2⟩
theorem inv_map (h : Mv n m) : inv m = (rgI n).map (iv m) := by unfold inv; rw [h.len]
theorem inv_im (h : Mv n m) {x : Int} (h0 : 0 ≤ x) (h1 : x < n) : im (inv m) x = iv m x := by rw [inv_map h, im_map h0 h1]
theorem inv_mv (h : Mv n m) : Mv n (inv m) := by
  rw [inv_map h]
  refine mv_map (fun x h0 h1 => (iv_rng h h0 h1).1) fun x y x0 x1 y0 y1 e => ?_
  rw [← (iv_rng h x0 x1).2, e, (iv_rng h y0 y1).2]
theorem jn_assoc {c : List Int} (ha : Mv n a) (hb : Mv n b) (hc : Mv n c) : jn (jn a b) c = jn a (jn b c) := by
  rw [jn_map hc, jn_map (jn_mv hb hc)]
  refine map_ext fun x h0 h1 => ?_
  have p := im_in hc h0 h1
  rw [jn_im hb p.1 p.2, jn_im hc h0 h1]
theorem jn_inv (ha : Mv n a) : jn a (inv a) = rgI n := by
  rw [jn_map (inv_mv ha)]
  conv => rhs; rw [← List.map_id (rgI n)]
  refine map_ext fun x h0 h1 => ?_
  rw [inv_im ha h0 h1, (iv_rng ha h0 h1).2]; rfl
theorem inv_jn (ha : Mv n a) (hb : Mv n b) : inv (jn a b) = jn (inv b) (inv a) := by
  rw [inv_map (jn_mv ha hb), jn_map (inv_mv ha)]
  refine map_ext fun x h0 h1 => ?_
  have p := iv_rng ha h0 h1
  rw [inv_im ha h0 h1, inv_im hb p.1.1 p.1.2]
  have q := iv_rng hb p.1.1 p.1.2
  have e : im (jn a b) (iv b (iv a x)) = x := by rw [jn_im hb q.1.1 q.1.2, q.2, p.2]
  conv => lhs; rw [← e]
  exact iv_im (jn_mv ha hb) q.1.1 q.1.2
/-- between o and its undone one -/
def cj (o m : List Int) : List Int := jn (jn o m) (inv o)
theorem cj_mv (ho : Mv n o) (hm : Mv n m) : Mv n (cj o m) := jn_mv (jn_mv ho hm) (inv_mv ho)
theorem cj_im (ho : Mv n o) (hm : Mv n m) {x : Int} (h0 : 0 ≤ x) (h1 : x < n) : im (cj o m) (im o x) = im o (im m x) := by
  unfold cj
  have p := im_in ho h0 h1
  rw [jn_im (inv_mv ho) p.1 p.2, inv_im ho p.1 p.2, iv_im ho h0 h1, jn_im hm h0 h1]
theorem cj_it (ho : Mv n o) (hm : Mv n m) {x : Int} (h0 : 0 ≤ x) (h1 : x < n) (k : Nat) : it (cj o m) k (im o x) = im o (it m k x) := by
  induction k with
  | zero => rfl
  | succ k ih =>
    have p := it_rng hm ⟨h0, h1⟩ k
    show im (cj o m) (it (cj o m) k (im o x)) = im o (im m (it m k x))
    rw [ih, cj_im ho hm p.1 p.2]
theorem cj_per (ho : Mv n o) (hm : Mv n m) {x : Int} (h0 : 0 ≤ x) (h1 : x < n) : per (cj o m) n (im o x) = per m n x := by
  have p := im_in ho h0 h1
  refine Nat.dvd_antisymm ((per_dvd (cj_mv ho hm) p).1 ?_) ((per_dvd hm ⟨h0, h1⟩).1 ?_)
  · rw [cj_it ho hm h0 h1, (per_spec hm ⟨h0, h1⟩).2.2.1]
  · have e := (per_spec (cj_mv ho hm) p).2.2.1
    rw [cj_it ho hm h0 h1] at e
    have q := it_rng hm ⟨h0, h1⟩ (per (cj o m) n (im o x))
    exact im_inj ho q.1 q.2 h0 h1 e
theorem cj_cyc (ho : Mv n o) (hm : Mv n m) {x : Int} (h0 : 0 ≤ x) (h1 : x < n) : cyc (cj o m) n (im o x) = (cyc m n x).map (im o) := by
  unfold cyc
  rw [cj_per ho hm h0 h1, List.map_map]
  refine List.map_congr_left fun k _ => cj_it ho hm h0 h1 k
/-- a cycle from another of its things on -/
theorem cyc_rot (hm : Mv n m) {x : Int} (hx : 0 ≤ x ∧ x < n) {j : Nat} (hj : j < per m n x) : (cyc m n x).drop j ++ (cyc m n x).take j = cyc m n (it m j x) := by
  have hp := per_cyc hm hx (mem_cyc' hm hx j)
  have hl := cyc_len (m := m) (n := n) x
  have at1 : ∀ i, i < per m n x → (cyc m n x)[i]? = some (it m i x) := fun i hi => by unfold cyc; rw [List.getElem?_map, List.getElem?_range hi]; rfl
  apply List.ext_getElem?
  intro i
  have r : (cyc m n (it m j x))[i]? = if i < per m n x then some (it m (i + j) x) else none := by
    unfold cyc
    rw [hp]
    by_cases hi : i < per m n x
    · rw [List.getElem?_map, List.getElem?_range hi, if_pos hi, it_add]; rfl
    · rw [List.getElem?_eq_none_iff.mpr (by simp; omega), if_neg hi]
  rw [r]
  by_cases h1 : i < per m n x - j
  · rw [List.getElem?_append_left (by rw [List.length_drop, hl]; exact h1), List.getElem?_drop, at1 _ (by omega), if_pos (by omega), Nat.add_comm]
  · rw [List.getElem?_append_right (by rw [List.length_drop, hl]; omega), List.length_drop, hl]
    by_cases h2 : i < per m n x
    · rw [List.getElem?_take, if_pos (by omega), at1 _ (by omega), if_pos h2]
      congr 1
      rw [it_mod hm hx (i + j)]
      congr 1
      have : i + j - per m n x < per m n x := by omega
      rw [Nat.mod_eq_sub_mod (by omega), Nat.mod_eq_of_lt this]
      omega
    · rw [if_neg h2]
      exact List.getElem?_eq_none_iff.mpr (by rw [List.length_take, hl]; omega)
theorem pw_perm_eq {l l' : List (List Int)} (p : l.Perm l') (s : l.Pairwise fun a b => lx b a = false) (s' : l'.Pairwise fun a b => lx b a = false) : l = l' := by
  induction l generalizing l' with
  | nil => exact p.nil_eq
  | cons x l ih =>
    cases l' with
    | nil => exact absurd p.length_eq (by simp)
    | cons y l' =>
      have hx : x ∈ y :: l' := p.mem_iff.1 (by simp)
      have hy : y ∈ x :: l := p.mem_iff.2 (by simp)
      have e : x = y := by
        rcases List.mem_cons.mp hx with h | h
        · exact h
        · rcases List.mem_cons.mp hy with h2 | h2
          · exact h2.symm
          · exact lx_eq ((List.pairwise_cons.mp s').1 x h) ((List.pairwise_cons.mp s).1 y h2)
      subst e
      rw [ih ((List.perm_cons x).1 p) (List.pairwise_cons.mp s).2 (List.pairwise_cons.mp s').2]
theorem cyc_cons (hm : Mv n m) {x : Int} (hx : 0 ≤ x ∧ x < n) : ∃ r, cyc m n x = x :: r := by
  obtain ⟨p1, _, _, _⟩ := per_spec hm hx
  unfold cyc
  obtain ⟨k, hk⟩ : ∃ k, per m n x = k + 1 := ⟨per m n x - 1, by omega⟩
  rw [hk, List.range_succ_eq_map]
  exact ⟨_, rfl⟩
theorem cs_pw (hm : Mv n m) : (cs m n).Pairwise fun a b => lx b a = false := by
  unfold cs
  rw [List.pairwise_map]
  refine leads_pw.imp_of_mem fun {s t} hs ht lt => ?_
  obtain ⟨r, e1⟩ := cyc_cons hm ((leads_mem hm).1 hs).1
  obtain ⟨q, e2⟩ := cyc_cons hm ((leads_mem hm).1 ht).1
  rw [e1, e2]
  unfold lx
  rw [if_neg (by omega)]
  exact decide_eq_false (by omega)
theorem cs_ne (hm : Mv n m) {l : List Int} (hl : l ∈ cs m n) : l ≠ [] := by
  obtain ⟨s, hs, rfl⟩ := List.mem_map.mp hl
  exact cyc_ne (per_spec hm ((leads_mem hm).1 hs).1).1
/-- led by o, each from its least thing on: the cycles of the move between -/
theorem cj_cs (ho : Mv n o) (hm : Mv n m) {rot : List Int → List Int}
    (hr : ∀ l : List Int, l ∈ cs m n → ∀ j, j < (l.map (im o)).length → (∀ z, z ∈ l.map (im o) → (l.map (im o)).getD j 0 ≤ z) → rot (l.map (im o)) = (l.map (im o)).drop j ++ (l.map (im o)).take j) :
    ((cs m n).map fun l => rot (l.map (im o))).Perm (cs (cj o m) n) := by
  have hc := cj_mv ho hm
  -- the least thing of each led cycle
  have key : ∀ s, s ∈ leads m n → ∃ t, t ∈ leads (cj o m) n ∧ rot ((cyc m n s).map (im o)) = cyc (cj o m) n t ∧ t ∈ (cyc m n s).map (im o) := fun s hs => by
    obtain ⟨rs, _⟩ := (leads_mem hm).1 hs
    have ro := im_in ho rs.1 rs.2
    have e := cj_cyc ho hm rs.1 rs.2
    have ne : (cyc m n s).map (im o) ≠ [] := by
      rw [← e]; exact cyc_ne (per_spec hc ro).1
    obtain ⟨t, ht, hmin⟩ := exists_min ne
    obtain ⟨j, hj, ej⟩ := List.mem_iff_getElem.mp ht
    have hjp : j < per (cj o m) n (im o s) := by rw [← cyc_len, e]; exact hj
    have et : it (cj o m) j (im o s) = t := by
      have h1 : ((cyc m n s).map (im o))[j]? = some t := by rw [List.getElem?_eq_getElem hj, ej]
      rw [← e] at h1
      unfold cyc at h1
      rw [List.getElem?_map, List.getElem?_range hjp] at h1
      simpa using h1
    have ht2 : t ∈ cyc (cj o m) n (im o s) := by rw [e]; exact ht
    refine ⟨t, (leads_mem hc).2 ⟨cyc_rng hc ro ht2, lead_iff.2 fun y hy => hmin y (by rw [← e]; exact cyc_trans hc ro ht2 hy)⟩, ?_, ht⟩
    rw [hr _ (List.mem_map.mpr ⟨s, hs, rfl⟩) j hj fun z hz => by
      rw [List.getD, List.getElem?_eq_getElem hj, ej]; exact hmin z hz]
    rw [← e, cyc_rot hc ro hjp, et]
  -- as a list of leaders
  have ex : ∃ ts : List Int, ((cs m n).map fun l => rot (l.map (im o))) = ts.map (cyc (cj o m) n) ∧ ts.Perm (leads (cj o m) n) := by
    have build : ∀ ls : List Int, (∀ s, s ∈ ls → s ∈ leads m n) → ∃ ts : List Int, (ls.map fun s => rot ((cyc m n s).map (im o))) = ts.map (cyc (cj o m) n) ∧ ts.length = ls.length ∧ (∀ t, t ∈ ts ↔ ∃ s, s ∈ ls ∧ t ∈ leads (cj o m) n ∧ t ∈ (cyc m n s).map (im o)) ∧ (ls.Nodup → ts.Nodup) := by
      intro ls
      induction ls with
      | nil => intro _; exact ⟨[], rfl, rfl, by simp, fun _ => List.nodup_nil⟩
      | cons s ls ih =>
        intro hls
        have hs := hls s (by simp)
        have rs := ((leads_mem hm).1 hs).1
        have ro := im_in ho rs.1 rs.2
        have e := cj_cyc ho hm rs.1 rs.2
        obtain ⟨ts, h1, h2, h3, h4⟩ := ih fun z hz => hls z (by simp [hz])
        obtain ⟨t, t1, t2, t3⟩ := key s hs
        refine ⟨t :: ts, by rw [List.map_cons, List.map_cons, h1, t2], by simp [h2], fun u => ?_, fun nd => ?_⟩
        · constructor
          · intro hu
            rcases List.mem_cons.mp hu with rfl | hu
            · exact ⟨s, by simp, t1, t3⟩
            · obtain ⟨z, hz, w⟩ := (h3 u).1 hu
              exact ⟨z, by simp [hz], w⟩
          · rintro ⟨z, hz, w1, w2⟩
            rcases List.mem_cons.mp hz with rfl | hz
            · have : u = t := leads_apart hc w1 t1 (x := t) (by
                have a1 : u ∈ cyc (cj o m) n (im o z) := by rw [e]; exact w2
                have a2 : t ∈ cyc (cj o m) n (im o z) := by rw [e]; exact t3
                exact cyc_trans hc (cyc_rng hc ro a1) (cyc_symm hc ro a1) a2) (cyc_self hc ((leads_mem hc).1 t1).1)
              simp [this]
            · exact List.mem_cons_of_mem _ ((h3 u).2 ⟨z, hz, w1, w2⟩)
        · rw [List.nodup_cons] at nd
          refine List.nodup_cons.mpr ⟨fun z => ?_, h4 nd.2⟩
          obtain ⟨s2, hs2, _, w2⟩ := (h3 t).1 z
          obtain ⟨x, hx, ex⟩ := List.mem_map.mp t3
          obtain ⟨y, hy, ey⟩ := List.mem_map.mp w2
          have rs2 := ((leads_mem hm).1 (hls s2 (by simp [hs2]))).1
          have rx := cyc_rng hm rs hx
          have ry := cyc_rng hm rs2 hy
          have : x = y := im_inj ho rx.1 rx.2 ry.1 ry.2 (ex.trans ey.symm)
          subst this
          have := leads_apart hm hs (hls s2 (by simp [hs2])) hx hy
          subst this
          exact nd.1 hs2
    obtain ⟨ts, h1, h2, h3, h4⟩ := build (leads m n) fun s hs => hs
    refine ⟨ts, ?_, perm_of_nodup (h4 leads_nodup) leads_nodup fun t => ?_⟩
    · unfold cs; rw [List.map_map]; exact h1
    · rw [h3 t]
      constructor
      · rintro ⟨s, _, h, _⟩; exact h
      · intro h
        have rt := ((leads_mem hc).1 h).1
        obtain ⟨q1, q2⟩ := iv_rng ho rt.1 rt.2
        obtain ⟨z, hz, hl, _⟩ := has_lead hm q1
        have rz := cyc_rng hm q1 hz
        exact ⟨z, (leads_mem hm).2 ⟨rz, hl⟩, h, List.mem_map.mpr ⟨iv o t, cyc_symm hm q1 hz, q2⟩⟩
  obtain ⟨ts, e, p⟩ := ex
  rw [e]
  exact p.map _
end
end Dn
set_option Elab.async false
set_option linter.all false
set_option maxRecDepth 100000
set_option autoImplicit false
set_option maxHeartbeats 4000000
/-! what moves make: closures, orbits, how many leave a thing -/
namespace Dn
open PySem L2 Evl PySem.Spec PyProof.Rows SrL
/-- a product of makers -/
def gen (mk : List (List Int)) (n : Nat) (g : List Int) : Prop := ∃ w : List (List Int), (∀ m, m ∈ w → m ∈ mk) ∧ g = w.foldr jn (rgI n)
theorem mv_id (n : Nat) : Mv n (rgI n) := List.Perm.refl _
theorem im_id {n : Nat} {x : Int} (h0 : 0 ≤ x) (h1 : x < n) : im (rgI n) x = x := by
  have := im_map (n := n) (f := id) h0 h1
  simpa using this
theorem jn_id {n : Nat} {a : List Int} (ha : Mv n a) : jn a (rgI n) = a := (mv_self ha).symm
theorem id_jn {n : Nat} {a : List Int} (ha : Mv n a) : jn (rgI n) a = a := by
  rw [jn_map ha]
  refine Eq.trans (map_ext fun x h0 h1 => ?_) (mv_self ha).symm
  have := im_in ha h0 h1
  exact im_id this.1 this.2
section
variable {n : Nat} {mk : List (List Int)} (hk : Mk n mk)
include hk
theorem word_mv : ∀ w : List (List Int), (∀ m, m ∈ w → m ∈ mk) → Mv n (w.foldr jn (rgI n))
  | [], _ => mv_id n
  | m :: w, h => jn_mv (hk.move m (h m (by simp))) (word_mv w fun x hx => h x (by simp [hx]))
theorem gen_mv {g : List Int} (h : gen mk n g) : Mv n g := by
  obtain ⟨w, hw, rfl⟩ := h
  exact word_mv hk w hw
omit hk in
theorem gen_id : gen mk n (rgI n) := ⟨[], by simp, rfl⟩
omit hk in
theorem gen_left {g m : List Int} (h : gen mk n g) (hm : m ∈ mk) : gen mk n (jn m g) := by
  obtain ⟨w, hw, rfl⟩ := h
  exact ⟨m :: w, fun x hx => by rcases List.mem_cons.mp hx with rfl | hx; exact hm; exact hw x hx, rfl⟩
theorem gen_mul {g h : List Int} (hg : gen mk n g) (hh : gen mk n h) : gen mk n (jn g h) := by
  obtain ⟨w, hw, rfl⟩ := hg
  induction w with
  | nil => simpa [id_jn (gen_mv hk hh)] using hh
  | cons m w ih =>
    have := ih fun x hx => hw x (by simp [hx])
    rw [List.foldr_cons, jn_assoc (hk.move m (hw m (by simp))) (word_mv hk w fun x hx => hw x (by simp [hx])) (gen_mv hk hh)]
    exact gen_left this (hw m (by simp))
theorem gen_one {m : List Int} (hm : m ∈ mk) : gen mk n m := by
  have := gen_left (gen_id (mk := mk) (n := n)) hm
  rwa [jn_id (hk.move m hm)] at this
theorem gen_right {g m : List Int} (h : gen mk n g) (hm : m ∈ mk) : gen mk n (jn g m) := gen_mul hk h (gen_one hk hm)
/-- closed on the right, and with what does nothing: all products -/
theorem all_right {S : List Int → Prop} (h0 : S (rgI n)) (hc : ∀ g m, gen mk n g → S g → m ∈ mk → S (jn g m)) {g : List Int} (h : gen mk n g) : S g := by
  obtain ⟨w, hw, rfl⟩ := h
  have key : ∀ (w : List (List Int)) (g : List Int), gen mk n g → S g → (∀ m, m ∈ w → m ∈ mk) → S (jn g (w.foldr jn (rgI n))) := by
    intro w
    induction w with
    | nil => intro g hg hs _; rw [List.foldr_nil, jn_id (gen_mv hk hg)]; exact hs
    | cons m w ih =>
      intro g hg hs hw
      have hm := hw m (by simp)
      have hw' : ∀ x, x ∈ w → x ∈ mk := fun x hx => hw x (by simp [hx])
      rw [List.foldr_cons, ← jn_assoc (gen_mv hk hg) (hk.move m hm) (word_mv hk w hw')]
      exact ih _ (gen_right hk hg hm) (hc g m hg hs hm) hw'
  have := key w (rgI n) gen_id h0 hw
  rwa [id_jn (word_mv hk w hw)] at this
omit hk in
theorem all_left {S : List Int → Prop} (h0 : S (rgI n)) (hc : ∀ g m, S g → m ∈ mk → S (jn m g)) {g : List Int} (h : gen mk n g) : S g := by
  obtain ⟨w, hw, rfl⟩ := h
  induction w with
  | nil => exact h0
  | cons m w ih => exact hc _ _ (ih fun x hx => hw x (by simp [hx])) (hw m (by simp))
/-- a list of all products, each once -/
structure Grp (mk : List (List Int)) (n : Nat) (G : List (List Int)) : Prop where
  nd : G.Nodup
  mem : ∀ g, g ∈ G ↔ gen mk n g
variable {G G' : List (List Int)}
omit hk in
theorem grp_perm (h : Grp mk n G) (h' : Grp mk n G') : G.Perm G' := (List.perm_ext_iff_of_nodup h.nd h'.nd).2 fun g => (h.mem g).trans (h'.mem g).symm
theorem Grp.mv (h : Grp mk n G) {g : List Int} (hg : g ∈ G) : Mv n g := gen_mv hk ((h.mem g).1 hg)
theorem jn_cancel {g a b : List Int} (hg : Mv n g) (ha : Mv n a) (hb : Mv n b) (e : jn g a = jn g b) : a = b := by
  rw [mv_self ha, mv_self hb]
  refine map_ext fun x h0 h1 => ?_
  have e1 := congrArg (fun l => im l x) e
  rw [jn_im ha h0 h1, jn_im hb h0 h1] at e1
  have a1 := im_in ha h0 h1
  have b1 := im_in hb h0 h1
  exact im_inj hg a1.1 a1.2 b1.1 b1.2 e1
omit hk in
theorem nodup_len {α : Type} [DecidableEq α] : ∀ {l l' : List α}, l.Nodup → (∀ x, x ∈ l → x ∈ l') → l.length ≤ l'.length
  | [], _, _, _ => Nat.zero_le _
  | x :: l, l', nd, hs => by
    have hx := hs x (by simp)
    have nd2 := List.nodup_cons.mp nd
    have := nodup_len (l := l) (l' := l'.erase x) nd2.2 fun y hy => (List.mem_erase_of_ne (fun e => nd2.1 (by rw [← e]; exact hy))).2 (hs y (by simp [hy]))
    rw [List.length_erase_of_mem hx] at this
    have hp := List.length_pos_of_mem hx
    rw [List.length_cons]
    omega
omit hk in
theorem nodup_all {α : Type} [DecidableEq α] {l l' : List α} (nd : l.Nodup) (hs : ∀ x, x ∈ l → x ∈ l') (hl : l'.length ≤ l.length) : ∀ x, x ∈ l' → x ∈ l := by
  intro x hx
  refine Classical.byContradiction fun hn => ?_
  have := nodup_len (l := x :: l) (l' := l') (List.nodup_cons.mpr ⟨hn, nd⟩) fun y hy => by rcases List.mem_cons.mp hy with rfl | hy; exact hx; exact hs y hy
  simp at this
  omega
omit hk in
theorem nodup_map_on {α β : Type} {f : α → β} : ∀ {l : List α}, l.Nodup → (∀ a, a ∈ l → ∀ b, b ∈ l → f a = f b → a = b) → (l.map f).Nodup
  | [], _, _ => List.nodup_nil
  | x :: l, nd, hf => by
    have nd2 := List.nodup_cons.mp nd
    rw [List.map_cons, List.nodup_cons]
    refine ⟨fun h => ?_, nodup_map_on nd2.2 fun a ha b hb => hf a (by simp [ha]) b (by simp [hb])⟩
    obtain ⟨y, hy, e⟩ := List.mem_map.mp h
    have := hf y (by simp [hy]) x (by simp) e
    exact nd2.1 (this ▸ hy)
theorem Grp.mulNd (h : Grp mk n G) {g : List Int} (mg : Mv n g) {F : List (List Int)} (nd : F.Nodup) (hF : ∀ f, f ∈ F → f ∈ G) : (F.map (jn g)).Nodup :=
  nodup_map_on nd fun a ha b hb e => jn_cancel hk mg (h.mv hk (hF a ha)) (h.mv hk (hF b hb)) e
theorem Grp.inv (h : Grp mk n G) {g : List Int} (hg : g ∈ G) : inv g ∈ G := by
  have mg := h.mv hk hg
  have ge := (h.mem g).1 hg
  have hid : rgI n ∈ G := (h.mem _).2 gen_id
  have := nodup_all (h.mulNd hk mg h.nd fun f hf => hf) (l' := G) (fun x hx => by
    obtain ⟨a, ha, rfl⟩ := List.mem_map.mp hx
    exact (h.mem _).2 (gen_mul hk ge ((h.mem a).1 ha))) (by rw [List.length_map]; exact Nat.le_refl _) _ hid
  obtain ⟨a, ha, e⟩ := List.mem_map.mp this
  have ma := h.mv hk ha
  have : a = Dn.inv g := jn_cancel hk mg ma (inv_mv mg) (by rw [e, jn_inv mg])
  rw [← this]
  exact ha
/-- who leads where -/
def kyB (mk : List (List Int)) (n : Nat) (x y : Int) : Bool := (lk (waysOf mk n x) y).isSome
theorem gen_ky {g : List Int} (h : gen mk n g) {x : Int} (x0 : 0 ≤ x) (x1 : x < n) : ky mk n x (im g x) := by
  refine all_left (S := fun g => Mv n g ∧ ky mk n x (im g x)) ⟨mv_id n, by rw [im_id x0 x1]; exact ky_self hk x0 x1⟩ (fun g m hs hm => ⟨jn_mv (hk.move m hm) hs.1, ?_⟩) h |>.2
  rw [jn_im hs.1 x0 x1]
  exact ky_step hk x0 x1 hs.2 hm
theorem ky_gen {x y : Int} (x0 : 0 ≤ x) (x1 : x < n) (h : ky mk n x y) : ∃ g, gen mk n g ∧ im g x = y := by
  refine ky_least hk x0 x1 (fun y => ∃ g, gen mk n g ∧ im g x = y) ⟨_, gen_id, im_id x0 x1⟩ (fun y m hs hm => ?_) h
  obtain ⟨g, hg, rfl⟩ := hs
  exact ⟨_, gen_left hg hm, jn_im (gen_mv hk hg) x0 x1⟩
def reach (mk : List (List Int)) (n : Nat) (x : Int) : List Int := (rgI n).filter (kyB mk n x)
omit hk in
theorem mem_reach {x y : Int} : y ∈ reach mk n x ↔ (0 ≤ y ∧ y < n) ∧ ky mk n x y := by
  unfold reach
  rw [List.mem_filter, mem_rgI]
  rfl
omit hk in
theorem filter_split {α : Type} (p : α → Bool) : ∀ l : List α, (l.filter p).length + (l.filter fun x => !p x).length = l.length
  | [] => rfl
  | x :: l => by
    have := filter_split p l
    cases h : p x
    · rw [List.filter_cons_of_neg (by simp [h]), List.filter_cons_of_pos (by simp [h])]
      simp only [List.length_cons]
      omega
    · rw [List.filter_cons_of_pos h, List.filter_cons_of_neg (by simp [h])]
      simp only [List.length_cons]
      omega
omit hk in
theorem count_parts {α : Type} (φ : α → Int) : ∀ (G : List α) (O : List Int), O.Nodup → (∀ g, g ∈ G → φ g ∈ O) → (O.map fun z => (G.filter fun g => decide (φ g = z)).length).sum = G.length := by
  intro G O nd hO
  induction O generalizing G with
  | nil =>
    cases G with
    | nil => rfl
    | cons g G => exact absurd (hO g (by simp)) (by simp)
  | cons z O ih =>
    have nd2 := List.nodup_cons.mp nd
    rw [List.map_cons, List.sum_cons]
    have h1 := ih (G.filter fun g => !decide (φ g = z)) nd2.2 fun g hg => by
      obtain ⟨h1, h2⟩ := List.mem_filter.mp hg
      rcases List.mem_cons.mp (hO g h1) with e | e
      · simp [e] at h2
      · exact e
    have h2 : (O.map fun y => ((G.filter fun g => !decide (φ g = z)).filter fun g => decide (φ g = y)).length) = O.map fun y => (G.filter fun g => decide (φ g = y)).length := by
      refine List.map_congr_left fun y hy => ?_
      rw [List.filter_filter]
      congr 1
      refine List.filter_congr fun g _ => ?_
      have yz : y ≠ z := fun e => nd2.1 (e ▸ hy)
      by_cases e : φ g = y
      · simp [e, yz]
      · simp [e]
    rw [h2] at h1
    rw [h1]
    exact filter_split (fun g => decide (φ g = z)) G
theorem orbit_stab (h : Grp mk n G) {x : Int} (x0 : 0 ≤ x) (x1 : x < n) : (G.filter fun g => decide (im g x = x)).length * (reach mk n x).length = G.length := by
  have hφ : ∀ g, g ∈ G → im g x ∈ reach mk n x := fun g hg => mem_reach.2 ⟨im_in (h.mv hk hg) x0 x1, gen_ky hk ((h.mem g).1 hg) x0 x1⟩
  have rnd : (reach mk n x).Nodup := (nodup_rgI n).filter _
  have hs := count_parts (fun g => im g x) G _ rnd hφ
  have same : ∀ z, z ∈ reach mk n x → (G.filter fun g => decide (im g x = z)).length = (G.filter fun g => decide (im g x = x)).length := fun z hz => by
    obtain ⟨_, hz⟩ := mem_reach.1 hz
    obtain ⟨k, hk2, rfl⟩ := ky_gen hk x0 x1 hz
    have kG : k ∈ G := (h.mem k).2 hk2
    have mk1 := gen_mv hk hk2
    have iG := h.inv hk kG
    have mi := inv_mv mk1
    refine Nat.le_antisymm ?_ ?_
    · have := nodup_len (h.mulNd hk mi (F := G.filter fun g => decide (im g x = im k x)) (h.nd.filter _) fun f hf => (List.mem_filter.mp hf).1) (l' := G.filter fun g => decide (im g x = x)) fun y hy => by
        obtain ⟨g, hg, rfl⟩ := List.mem_map.mp hy
        obtain ⟨g1, g2⟩ := List.mem_filter.mp hg
        have mg := h.mv hk g1
        refine List.mem_filter.mpr ⟨(h.mem _).2 (gen_mul hk ((h.mem _).1 iG) ((h.mem _).1 g1)), ?_⟩
        have g2 : im g x = im k x := by simpa using g2
        have kr := im_in mk1 x0 x1
        rw [decide_eq_true_eq, jn_im mg x0 x1, g2, inv_im mk1 kr.1 kr.2, iv_im mk1 x0 x1]
      simpa using this
    · have := nodup_len (h.mulNd hk mk1 (F := G.filter fun g => decide (im g x = x)) (h.nd.filter _) fun f hf => (List.mem_filter.mp hf).1) (l' := G.filter fun g => decide (im g x = im k x)) fun y hy => by
        obtain ⟨g, hg, rfl⟩ := List.mem_map.mp hy
        obtain ⟨g1, g2⟩ := List.mem_filter.mp hg
        have mg := h.mv hk g1
        refine List.mem_filter.mpr ⟨(h.mem _).2 (gen_mul hk hk2 ((h.mem _).1 g1)), ?_⟩
        have g2 : im g x = x := by simpa using g2
        rw [decide_eq_true_eq, jn_im mg x0 x1, g2]
      simpa using this
  rw [List.map_congr_left same] at hs
  rw [← hs]
  clear hs same hφ rnd
  generalize (G.filter fun g => decide (im g x = x)).length = c
  induction reach mk n x with
  | nil => simp
  | cons z O ih => rw [List.map_cons, List.sum_cons, ← ih, List.length_cons, Nat.mul_succ]; omega
end
end Dn
set_option Elab.async false
set_option linter.all false
set_option maxRecDepth 100000
set_option autoImplicit false
set_option maxHeartbeats 4000000
/-! how many moves there are at most; orbits in order; the moves of six things -/
namespace Dn
open PySem L2 Evl PySem.Spec PyProof.Rows SrL
def ff : Nat → Nat → Nat
  | 0, _ => 1
  | k + 1, s => s * ff k (s - 1)
theorem few : ∀ (k : Nat) (S : List Int) (G : List (List Int)), S.Nodup → G.Nodup → (∀ g, g ∈ G → g.length = k ∧ g.Nodup ∧ ∀ x, x ∈ g → x ∈ S) → G.length ≤ ff k S.length
  | 0, S, G, _, nd, h => by
    have : ∀ g, g ∈ G → g = [] := fun g hg => List.eq_nil_of_length_eq_zero (h g hg).1
    have := nodup_len (l := G) (l' := [[]]) nd fun g hg => by rw [this g hg]; simp
    simpa [ff] using this
  | k + 1, S, G, sd, nd, h => by
    have hs := count_parts (fun g : List Int => g.headD 0) G S sd fun g hg => by
      obtain ⟨h1, _, h3⟩ := h g hg
      cases g with
      | nil => simp at h1
      | cons x g => exact h3 x (by simp)
    have each : ∀ z, z ∈ S → (G.filter fun g => decide (g.headD 0 = z)).length ≤ ff k (S.length - 1) := fun z hz => by
      have e := few k (S.erase z) ((G.filter fun g => decide (g.headD 0 = z)).map List.tail) (sd.erase z) (nodup_map_on (nd.filter _) fun a ha b hb e => by
        obtain ⟨a1, a2⟩ := List.mem_filter.mp ha
        obtain ⟨b1, b2⟩ := List.mem_filter.mp hb
        have la := (h a a1).1
        have lb := (h b b1).1
        cases a with
        | nil => simp at la
        | cons x a => cases b with
          | nil => simp at lb
          | cons y b =>
            simp at a2 b2 e
            rw [a2, b2, e]) fun g hg => by
        obtain ⟨a, ha, rfl⟩ := List.mem_map.mp hg
        obtain ⟨a1, a2⟩ := List.mem_filter.mp ha
        obtain ⟨h1, h2, h3⟩ := h a a1
        cases a with
        | nil => simp at h1
        | cons x a =>
          simp at a2 h1 h2
          subst a2
          refine ⟨h1, h2.2, fun y hy => (List.mem_erase_of_ne (fun e => ?_)).2 (h3 y (by simp at hy ⊢; exact .inr hy))⟩
          subst e
          exact h2.1 hy
      rw [List.length_map, List.length_erase_of_mem hz] at e
      exact e
    rw [← hs]
    have : ∀ O : List Int, (∀ z, z ∈ O → z ∈ S) → (O.map fun z => (G.filter fun g => decide (g.headD 0 = z)).length).sum ≤ O.length * ff k (S.length - 1) := by
      intro O
      induction O with
      | nil => intro _; simp
      | cons z O ih =>
        intro hO
        have a := ih fun y hy => hO y (by simp [hy])
        have b := each z (hO z (by simp))
        rw [List.map_cons, List.sum_cons, List.length_cons, Nat.succ_mul]
        omega
    exact this S fun _ h => h
theorem pw_int_eq : ∀ {l l' : List Int}, l.Perm l' → l.Pairwise (· ≤ ·) → l'.Pairwise (· ≤ ·) → l = l'
  | [], l', p, _, _ => (List.Perm.eq_nil p.symm).symm
  | x :: l, [], p, _, _ => by have := p.length_eq; simp at this
  | x :: l, y :: l', p, h1, h2 => by
    have h1' := List.pairwise_cons.mp h1
    have h2' := List.pairwise_cons.mp h2
    have xy : x ≤ y := by
      rcases List.mem_cons.mp (p.mem_iff.mpr (List.mem_cons_self (a := y) (l := l'))) with e | e
      · omega
      · exact h1'.1 y e
    have yx : y ≤ x := by
      rcases List.mem_cons.mp (p.mem_iff.mp (List.mem_cons_self (a := x) (l := l))) with e | e
      · omega
      · exact h2'.1 x e
    obtain rfl : x = y := by omega
    rw [pw_int_eq p.cons_inv h1'.2 h2'.2]
/-- the orbits, each at its first thing -/
def orbF (mk : List (List Int)) (n : Nat) : List (List Int) := (rgI n).foldl (fun acc x => if (acc.any fun l => l.contains x) = true then acc else acc ++ [reach mk n x]) []
section
variable {n : Nat} {mk : List (List Int)} (hk : Mk n mk)
include hk
theorem grp_few {G : List (List Int)} (h : Grp mk n G) : G.length ≤ ff n n := by
  have := few n (rgI n) G (nodup_rgI n) h.nd fun g hg => by
    have mg := h.mv hk hg
    exact ⟨mg.len, mg.nodup, fun x hx => mg.mem_iff.1 hx⟩
  rwa [rgI_len] at this
theorem list_few {G : List (List Int)} (nd : G.Nodup) (h : ∀ g, g ∈ G → Mv n g) : G.length ≤ ff n n := by
  have := few n (rgI n) G (nodup_rgI n) nd fun g hg => ⟨(h g hg).len, (h g hg).nodup, fun x hx => (h g hg).mem_iff.1 hx⟩
  rwa [rgI_len] at this
theorem reach_eq {x y : Int} (x0 : 0 ≤ x) (x1 : x < n) (h : y ∈ reach mk n x) : reach mk n y = reach mk n x := by
  obtain ⟨⟨y0, y1⟩, hy⟩ := mem_reach.1 h
  unfold reach
  refine List.filter_congr fun z hz => ?_
  have : kyB mk n y z = true ↔ kyB mk n x z = true := ⟨fun w => ky_trans hk x0 x1 hy w, fun w => ky_trans hk y0 y1 (ky_symm hk x0 x1 hy) w⟩
  cases a : kyB mk n y z <;> cases b : kyB mk n x z <;> simp [a, b] at this ⊢
/-- what orbits are -/
structure Orb (mk : List (List Int)) (n : Nat) (done : List Int) (acc : List (List Int)) : Prop where
  each : ∀ l, l ∈ acc → ∃ x : Int, (0 ≤ x ∧ x < n) ∧ l = reach mk n x
  nd : acc.flatten.Nodup
  all : ∀ x, x ∈ done → ∃ l, l ∈ acc ∧ x ∈ l
omit hk in
theorem any_in {acc : List (List Int)} {x : Int} : (acc.any fun l => l.contains x) = true ↔ ∃ l, l ∈ acc ∧ x ∈ l := by
  simp [List.any_eq_true]
theorem Orb.step {done : List Int} {acc : List (List Int)} (h : Orb mk n done acc) {x : Int} (hx : 0 ≤ x ∧ x < n) : Orb mk n (done ++ [x]) (if (acc.any fun l => l.contains x) = true then acc else acc ++ [reach mk n x]) := by
  by_cases e : (acc.any fun l => l.contains x) = true
  · rw [if_pos e]
    refine ⟨h.each, h.nd, fun y hy => ?_⟩
    rcases List.mem_append.mp hy with hy | hy
    · exact h.all y hy
    · rw [List.mem_singleton.mp hy]; exact any_in.1 e
  · rw [if_neg e]
    have no : ∀ l, l ∈ acc → x ∉ l := fun l hl hxl => e (any_in.2 ⟨l, hl, hxl⟩)
    refine ⟨fun l hl => ?_, ?_, fun y hy => ?_⟩
    · rcases List.mem_append.mp hl with hl | hl
      · exact h.each l hl
      · rw [List.mem_singleton.mp hl]; exact ⟨x, hx, rfl⟩
    · rw [List.flatten_append, List.nodup_append]
      refine ⟨h.nd, by rw [List.flatten_cons, List.flatten_nil, List.append_nil]; exact (nodup_rgI n).filter _, fun a ha b hb => ?_⟩
      rintro rfl
      obtain ⟨l, hl, hal⟩ := List.mem_flatten.mp ha
      obtain ⟨z, hz, rfl⟩ := h.each l hl
      have hb : a ∈ reach mk n x := by simpa using hb
      have e1 := reach_eq hk hz.1 hz.2 hal
      have e2 := reach_eq hk hx.1 hx.2 hb
      have : x ∈ reach mk n z := by rw [← e1, e2]; exact mem_reach.2 ⟨hx, ky_self hk hx.1 hx.2⟩
      exact no _ hl this
    · rcases List.mem_append.mp hy with hy | hy
      · obtain ⟨l, h1, h2⟩ := h.all y hy
        exact ⟨l, by simp [h1], h2⟩
      · rw [List.mem_singleton.mp hy]
        exact ⟨_, by simp, mem_reach.2 ⟨hx, ky_self hk hx.1 hx.2⟩⟩
theorem orb_ok : Orb mk n (rgI n) (orbF mk n) := by
  have key : ∀ (rest done : List Int) (acc : List (List Int)), Orb mk n done acc → (∀ x, x ∈ rest → 0 ≤ x ∧ x < n) → Orb mk n (done ++ rest) (rest.foldl (fun acc x => if (acc.any fun l => l.contains x) = true then acc else acc ++ [reach mk n x]) acc) := by
    intro rest
    induction rest with
    | nil => intro done acc h _; simpa using h
    | cons x rest ih =>
      intro done acc h hr
      have := ih (done ++ [x]) _ (h.step hk (hr x (by simp))) fun y hy => hr y (by simp [hy])
      simpa using this
  have := key (rgI n) [] [] ⟨by simp, by simp, by simp⟩ fun x hx => mem_rgI.mp hx
  simpa [orbF] using this
theorem orb_sum : ((orbF mk n).map List.length).sum = n := by
  have h := orb_ok hk
  rw [← List.length_flatten]
  have p : (orbF mk n).flatten.Perm (rgI n) := perm_of_nodup h.nd (nodup_rgI n) fun x => by
    constructor
    · intro hx
      obtain ⟨l, hl, hxl⟩ := List.mem_flatten.mp hx
      obtain ⟨z, hz, rfl⟩ := h.each l hl
      exact mem_rgI.mpr (mem_reach.1 hxl).1
    · intro hx
      obtain ⟨l, hl, hxl⟩ := h.all x hx
      exact List.mem_flatten.mpr ⟨l, hl, hxl⟩
  rw [p.length_eq, rgI_len]
theorem orb_few : (orbF mk n).length ≤ n := by
  have h := orb_ok hk
  have hs := orb_sum hk
  have : ∀ l : List (List Int), (∀ x, x ∈ l → 1 ≤ x.length) → l.length ≤ (l.map List.length).sum := by
    intro l
    induction l with
    | nil => intro _; simp
    | cons x l ih =>
      intro hh
      have := ih fun y hy => hh y (by simp [hy])
      have := hh x (by simp)
      simp
      omega
  refine Nat.le_trans (this (orbF mk n) fun l hl => ?_) (Nat.le_of_eq hs)
  obtain ⟨z, hz, rfl⟩ := h.each l hl
  exact List.length_pos_of_mem (mem_reach.2 ⟨hz, ky_self hk hz.1 hz.2⟩)
omit hk in
theorem orbF_congr {mk' : List (List Int)} (e : ∀ x : Int, 0 ≤ x → x < n → reach mk n x = reach mk' n x) : orbF mk n = orbF mk' n := by
  have key : ∀ (rest : List Int) (acc : List (List Int)), (∀ x, x ∈ rest → 0 ≤ x ∧ x < n) → rest.foldl (fun acc x => if (acc.any fun l => l.contains x) = true then acc else acc ++ [reach mk n x]) acc = rest.foldl (fun acc x => if (acc.any fun l => l.contains x) = true then acc else acc ++ [reach mk' n x]) acc := by
    intro rest
    induction rest with
    | nil => intro acc _; rfl
    | cons x rest ih =>
      intro acc hr
      rw [List.foldl_cons, List.foldl_cons, e x (hr x (by simp)).1 (hr x (by simp)).2]
      exact ih _ fun y hy => hr y (by simp [hy])
  exact key _ _ fun x hx => mem_rgI.mp hx
end
/-! ### the moves of six things -/
def c6 : List Int := [1, 2, 3, 4, 5, 0]
def s6 : List Int := [1, 0, 2, 3, 4, 5]
def wp : Nat → Nat → List Int
  | 0, _ => rgI 6
  | f + 1, k => if k ≤ 1 then rgI 6 else jn (if k % 2 = 1 then s6 else c6) (wp f (k / 2))
theorem wp_gen : ∀ (f k : Nat), gen [c6, s6] 6 (wp f k)
  | 0, _ => gen_id
  | f + 1, k => by
    unfold wp
    split
    · exact gen_id
    · split
      · exact gen_left (wp_gen f _) (by simp)
      · exact gen_left (wp_gen f _) (by simp)
def up : List (List Int) → Bool
  | a :: b :: l => lx a b && up (b :: l)
  | _ => true
theorem up_nd : ∀ {l : List (List Int)}, up l = true → l.Pairwise (fun a b => lx a b = true)
  | [], _ => .nil
  | [_], _ => List.pairwise_singleton _ _
  | a :: b :: l, h => by
    simp only [up, Bool.and_eq_true] at h
    have ih := up_nd h.2
    refine List.pairwise_cons.mpr ⟨fun c hc => ?_, ih⟩
    rcases List.mem_cons.mp hc with rfl | hc
    · exact h.1
    · have bc := (List.pairwise_cons.mp ih).1 c hc
      have O : SrtO.Swo lx := ⟨fun _ _ h => lx_asym h, fun _ _ _ h1 h2 => lx_tr h1 h2⟩
      exact O.ltle h.1 (O.asym _ _ bc)
def codes : List Nat := [1, 144, 136, 296, 17056, 34120, 132, 292, 276, 596, 34116, 1314, 16720, 33832, 33444, 1298, 5386, 2642, 8352, 16712, 16708, 33428, 10826, 70292, 130, 290, 274, 594, 34114, 68242, 266, 586, 554, 5, 1185, 545, 33442, 5257, 1169, 529, 2385, 1105, 16706, 10569, 33418, 66858, 5193, 133777, 424, 33316, 33300, 1290, 20773, 2634, 850, 66634, 1161, 521, 2377, 1097, 4741, 2181, 2345, 1065, 21, 2217, 9541, 4421, 21029, 51346, 2117, 4677, 208, 17685, 420, 37028, 8469, 18709, 418, 10537, 842, 1697, 5161, 49802, 9509, 4389, 67914, 3401, 2085, 4645, 85, 8869, 8725, 18965, 4261, 9381, 96, 200, 196, 404, 17045, 34964, 194, 402, 394, 810, 34962, 1681, 16964, 33940, 33930, 1673, 6789, 3369, 8341, 18581, 17557, 38037, 13605, 100682, 3, 289, 273, 593, 34090, 68241, 265, 585, 553, 1193, 68233, 2629, 33441, 67665, 66889, 2597, 10773, 5285, 16682, 33425, 33417, 66857, 21653, 140585, 261, 581, 549, 1189, 21652, 136485, 533, 1173, 288, 2, 592, 272, 66885, 2628, 584, 264, 1192, 552, 10772, 5284, 66837, 33440, 2596, 66888, 849, 21138, 66601, 2581, 10386, 5269, 1701, 133269, 580, 260, 1188, 548, 2370, 1090, 1172, 532, 10, 1108, 4770, 2210, 10514, 66884, 1058, 2338, 417, 8842, 841, 74057, 4234, 9354, 837, 5268, 1685, 848, 2580, 66600, 4754, 2194, 133268, 1700, 1042, 2322, 42, 4434, 4362, 9482, 2130, 4690, 170, 401, 393, 809, 8522, 18762, 389, 805, 789, 416, 69925, 840, 10322, 67881, 21074, 836, 3394, 1684, 4170, 9290, 8778, 19018, 6802, 135828, 340, 802, 786, 1618, 17044, 37524, 778, 1610, 1157, 13, 2373, 1093, 20644, 10517, 2341, 1061, 4773, 2213, 8340, 18580, 17556, 38036, 10389, 267557, 681, 1605, 1573, 3237, 34089, 75049, 1557, 3221, 578, 6, 1186, 546, 41289, 5258, 1170, 530, 2386, 1106, 16681, 10570, 35113, 66882, 5194, 133778, 21544, 10568, 2325, 1045, 4757, 2197, 43089, 21137, 1162, 522, 2378, 1098, 1184, 544, 2346, 1066, 4, 9, 2384, 1104, 4769, 2209, 528, 1057, 9540, 4420, 21028, 3397, 2116, 4676, 19081, 8841, 42057, 1698, 4233, 9353, 2376, 1096, 4753, 2193, 520, 1041, 20, 2216, 41, 4433, 1064, 2129, 84, 8868, 8724, 1669, 4260, 3365, 169, 17737, 17449, 834, 8521, 1682, 5160, 3349, 10321, 1674, 1696, 3370, 2084, 4644, 4169, 9289, 3400, 6801, 168, 17736, 17448, 3338, 8520, 6730, 338, 35474, 3209, 1361, 6473, 3145, 9493, 4373, 6441, 3113, 53, 4629, 4168, 8853, 8338, 18578, 4245, 9365, 337, 35473, 34897, 6677, 17041, 13461, 677, 70949, 1604, 680, 3236, 1572, 4746, 2186, 3220, 1556, 26, 2314, 8337, 4426, 16677, 37157, 2122, 4682, 33362, 21140, 6421, 2725, 10388, 6293, 66725, 42281, 3210, 1362, 6474, 3146, 2372, 1092, 4745, 2185, 12, 25, 4772, 2212, 9545, 4425, 1060, 2121, 4768, 2208, 9538, 4418, 1056, 2114, 9514, 4394, 19077, 8837, 2090, 4229, 4756, 2196, 9513, 4393, 1044, 2089, 8, 18, 17, 37, 2132, 4265, 40, 4432, 82, 8866, 2128, 4258, 81, 8865, 165, 17733, 4257, 8517, 8466, 18706, 16933, 37413, 3396, 6793, 1040, 2082, 2081, 4165, 4386, 8773, 80, 8864, 164, 17732, 4256, 8516, 162, 17730, 330, 673, 8514, 17034, 16932, 12581, 33866, 1353, 5445, 12837, 213, 4164, 4162, 8330, 8772, 17546, 161, 17706, 329, 35465, 8490, 17033, 325, 13460, 661, 336, 6676, 34069, 12946, 6290, 67733, 676, 2722, 6418, 106, 8329, 8325, 16661, 6226, 12882, 16674, 8852, 33354, 1349, 4244, 9364, 33349, 17705, 66709, 674, 8489, 18729, 6472, 2709, 12945, 1354, 1360, 2721, 52, 4628, 105, 9257, 3112, 6225, 9544, 4424, 19090, 8850, 2120, 4242, 19089, 8849, 38181, 17701, 4241, 8485, 12948, 6292, 25897, 12585, 2724, 5449, 24, 50, 49, 101, 4370, 8741, 16, 36, 34, 74, 4264, 8530, 33, 73, 69, 149, 8529, 17061, 4180, 8458, 8361, 16917, 17674, 35349, 2088, 4178, 4177, 8357, 8786, 17573, 32, 72, 68, 148, 8528, 17060, 66, 146, 138, 298, 17058, 657, 8360, 16916, 16722, 649, 2693, 1321, 4176, 8356, 8354, 16714, 5413, 35146, 65, 145, 137, 297, 17057, 34121, 133, 293, 277, 160, 34117, 328, 16721, 33833, 33445, 324, 1346, 660, 8353, 16713, 16709, 33429, 2706, 67732, 212, 16658, 16650, 645, 12452, 1317, 425, 33317, 33301, 322, 24905, 658, 13352, 1301, 26705, 650, 672, 1322, 5444, 12836, 10889, 25673, 1352, 2705, 104, 9256, 210, 18514, 5397, 12450, 209, 18513, 421, 33348, 2698, 24901, 16978, 37458, 33957, 66698, 1348, 2697, 2720, 5442, 5418, 10885, 2708, 5417, 48, 100, 98, 202, 8740, 17482, 97, 201, 197, 405, 17481, 34965, 8482, 16970, 16965, 33941, 35402, 70805, 5448, 10898, 10897, 21797, 25170, 50341]
theorem codes_up : up (codes.map (wp 20)) = true := by decide +kernel
theorem six {G : List (List Int)} (h : Grp [c6, s6] 6 G) (hk : Mk 6 [c6, s6]) : G.length = 720 := by
  refine Nat.le_antisymm (Nat.le_trans (grp_few hk h) (by decide)) ?_
  have nd : (codes.map (wp 20)).Nodup := (up_nd codes_up).imp fun {a b} h e => by
    subst e
    rw [lx_asym h] at h
    cases h
  have := nodup_len nd (l' := G) fun g hg => by
    obtain ⟨k, _, rfl⟩ := List.mem_map.mp hg
    exact (h.mem _).2 (wp_gen 20 k)
  rw [List.length_map] at this
  exact Nat.le_trans (by decide +kernel) this
end Dn
set_option Elab.async false
set_option linter.all false
set_option maxRecDepth 100000
set_option autoImplicit false
set_option maxHeartbeats 4000000
namespace Dn
open PySem L2 Evl PySem.Spec PyProof.Rows SrL
def S_joined_moves (ds : List D) (Q : D → Prop) : Prop := ∃ (n : Nat) (a b : List Int), ds = [tI a, tI b] ∧ Mv n a ∧ Mv n b ∧ n ≤ 24 ∧ Q (tI (jn a b))
def S_joined (ds : List D) (Q : D → Prop) : Prop := ∃ (n : Nat) (a b : List Int), ds = [tI a, tI b] ∧ Mv n a ∧ Mv n b ∧ n ≤ 24 ∧ Q (tI (jn a b))
def S__law_joined (ds : List D) (Q : D → Prop) : Prop := ∃ (n : Nat) (a b : List Int), ds = [tI a, tI b] ∧ Mv n a ∧ Mv n b ∧ n ≤ 24 ∧ Q (tI (jn a b))
def S_undone_move (ds : List D) (Q : D → Prop) : Prop := ∃ (n : Nat) (m : List Int), ds = [tI m] ∧ Mv n m ∧ n ≤ 24 ∧ Q (tI (inv m))
def S_undone (ds : List D) (Q : D → Prop) : Prop := ∃ (n : Nat) (m : List Int), ds = [tI m] ∧ Mv n m ∧ n ≤ 24 ∧ Q (tI (inv m))
def S__law_undone (ds : List D) (Q : D → Prop) : Prop := ∃ (n : Nat) (m : List Int), ds = [tI m] ∧ Mv n m ∧ n ≤ 24 ∧ Q (tI (inv m))
def S__cycles_of (ds : List D) (Q : D → Prop) : Prop := ∃ (n : Nat) (m : List Int), ds = [tI m] ∧ Mv n m ∧ n ≤ 24 ∧ Q (.list ((cs m n).map tI))
def S_cycles (ds : List D) (Q : D → Prop) : Prop := ∃ (n : Nat) (m : List Int), ds = [tI m] ∧ Mv n m ∧ n ≤ 24 ∧ Q (tR (cs m n))
def S__law_cycles (ds : List D) (Q : D → Prop) : Prop := ∃ (n : Nat) (m : List Int), ds = [tI m] ∧ Mv n m ∧ n ≤ 24 ∧ Q (tR (cs m n))
def S_order_of (ds : List D) (Q : D → Prop) : Prop := ∃ (n : Nat) (m : List Int), ds = [tI m] ∧ Mv n m ∧ n ≤ 24 ∧ Q (.int (ord m n : Nat))
def S__law_order_of (ds : List D) (Q : D → Prop) : Prop := ∃ (n : Nat) (m : List Int), ds = [tI m] ∧ Mv n m ∧ n ≤ 12 ∧ Q (.int (ord m n : Nat))
def raised (m : List Int) (n : Nat) (k : Int) : List Int := (rgI n).map fun x => it m (k % (per m n x : Nat)).toNat x
def S_raised (ds : List D) (Q : D → Prop) : Prop := ∃ (n : Nat) (m : List Int) (k : Int), ds = [tI m, .int k] ∧ Mv n m ∧ n ≤ 24 ∧ isI (.int k) = true ∧ Q (tI (raised m n k))
def S__law_power (ds : List D) (Q : D → Prop) : Prop := ∃ (n : Nat) (m : List Int) (k : Nat), ds = [tI m, .int k] ∧ Mv n m ∧ n ≤ 24 ∧ k ≤ 1000 ∧ Q (tI ((rgI n).map (it m k)))
def S__law_rotated (ds : List D) (Q : D → Prop) : Prop := ∃ l : List Int, ds = [.list (l.map PyData.int)] ∧ l ≠ [] ∧ l.Nodup ∧ l.length ≤ 24 ∧ ∀ j, j < l.length → (∀ z, z ∈ l → l.getD j 0 ≤ z) → Q (tI (l.drop j ++ l.take j))
end Dn
set_option Elab.async false
set_option linter.all false
set_option maxRecDepth 100000
set_option autoImplicit false
set_option maxHeartbeats 4000000
namespace Dn.K01
open PySem L2 Evl PySem.Spec PyProof.Rows SrL
def srt (G : List (List Int)) : Prop := G.Pairwise fun a b => lx b a = false
def S_closure_within (ds : List D) (Q : D → Prop) : Prop := ∃ (n : Nat) (mk : List (List Int)), ds = [.int n, tR mk, .int 1000] ∧ Mk n mk ∧ n ≤ 6 ∧ ∀ G, Grp mk n G → srt G → Q (tR G)
def S_closure (ds : List D) (Q : D → Prop) : Prop := ∃ (n : Nat) (mk : List (List Int)), ds = [.int n, tR mk] ∧ Mk n mk ∧ n ≤ 6 ∧ ∀ G, Grp mk n G → srt G → Q (tR G)
def S_orbits (ds : List D) (Q : D → Prop) : Prop := ∃ (n : Nat) (mk : List (List Int)), ds = [.int n, tR mk] ∧ Mk n mk ∧ Q (tR (orbF mk n))
def S__law_closed_moves (ds : List D) (Q : D → Prop) : Prop := ∃ (n : Nat) (mk : List (List Int)), ds = [.int n, tR mk] ∧ Mk n mk ∧ 1 ≤ n ∧ n ≤ 6 ∧ ∀ G, Grp mk n G → srt G → Q (.list (G.map tI))
def S__law_orbits (ds : List D) (Q : D → Prop) : Prop := ∃ (n : Nat) (mk : List (List Int)), ds = [.int n, tR mk] ∧ Mk n mk ∧ n ≤ 6 ∧ Q (tR (orbF mk n))
def S__law_makers (ms ds : List D) (Q : D → List D → Prop) : Prop := ∃ n : Nat, ds = [.int n] ∧ 1 ≤ n ∧ n ≤ 6 ∧ Dc ms ∧ ∀ mk ms', Mk n mk → mk.length ≤ 3 → Dc ms' → Q (tR mk) ms'
def S__law_right (ms ds : List D) (Q : D → List D → Prop) : Prop := ∃ n : Nat, ds = [.int n] ∧ 1 ≤ n ∧ n ≤ 6 ∧ Dc ms ∧ ∀ ms', Dc ms' → Q (.bool true) ms'
def S_law (ds : List D) (Q : D → Prop) : Prop := ∃ s, ds = [scr s] ∧ s.length ≤ 63 ∧ Q (.bool true)
end Dn.K01
set_option Elab.async false
set_option linter.all false
set_option maxRecDepth 100000
set_option autoImplicit false
set_option maxHeartbeats 4000000
/-! Comprehensions of any number of clauses: one clause's loop over any action of a turn, to be nested. -/
namespace Cq
open PySem L2 PySem.Spec PyProof.Rows
abbrev CpAct := Value → Env → (Unit → Sem Fin) → Sem Fin
/-- a turn at depth k, what is done with a found item told as act -/
def TurnEq (C : Expr) (k : Nat) (p : Pos) (tg : Expr) (ifs : List Expr) (act : CpAct) : Prop :=
  ∀ (src lst : Value) (ev : Env), compTurn C k src lst ev = (do
    standAt p
    match ← pyNext src with
    | none => pure (.done .next)
    | some got =>
      letOwnedTupleGo tg src got
      assign tg ev got
      let mut fits := true
      for q in ifs do
        if fits then fits ← isTrue q ev (eval q ev)
      if fits then
        act lst ev fun _ => again (.compLoop C k src lst ev)
      else again (.compLoop C k src lst ev))
def aApp (elt : Expr) : CpAct := fun lst ev kk => (do let _ ← call (.builtin "list.append") [lst, ← eval elt ev]) >>= kk
def aFor (C : Expr) (k : Nat) (i : Expr) : CpAct := fun lst ev kk => do
  let raw ← eval i ev
  standAt i.pos
  let src ← foldedSetIterable i ev raw
  let _ ← runOwn (.compStart C k (← holding [src] (pyIter src)) lst ev) ev
  kk ()
theorem turn3_0 {elt t0 i0 t1 i1 t2 i2 : Expr} {f0 f1 f2 : List Expr} {sc : Scope} {pos : Pos} : TurnEq (.ListComp elt [⟨t0, i0, f0, 0⟩, ⟨t1, i1, f1, 0⟩, ⟨t2, i2, f2, 0⟩] sc pos) 0 i0.pos t0 f0 (aFor (.ListComp elt [⟨t0, i0, f0, 0⟩, ⟨t1, i1, f1, 0⟩, ⟨t2, i2, f2, 0⟩] sc pos) 1 i1) := fun _ _ _ => by rfl
theorem turn3_1 {elt t0 i0 t1 i1 t2 i2 : Expr} {f0 f1 f2 : List Expr} {sc : Scope} {pos : Pos} : TurnEq (.ListComp elt [⟨t0, i0, f0, 0⟩, ⟨t1, i1, f1, 0⟩, ⟨t2, i2, f2, 0⟩] sc pos) 1 i1.pos t1 f1 (aFor (.ListComp elt [⟨t0, i0, f0, 0⟩, ⟨t1, i1, f1, 0⟩, ⟨t2, i2, f2, 0⟩] sc pos) 2 i2) := fun _ _ _ => by rfl
theorem turn3_2 {elt t0 i0 t1 i1 t2 i2 : Expr} {f0 f1 f2 : List Expr} {sc : Scope} {pos : Pos} : TurnEq (.ListComp elt [⟨t0, i0, f0, 0⟩, ⟨t1, i1, f1, 0⟩, ⟨t2, i2, f2, 0⟩] sc pos) 2 i2.pos t2 f2 (aApp elt) := fun _ _ _ => by rfl
/-- what is done with an item, by its reading -/
structure Act (Y : Cx) (act : CpAct) (lst : Value) (vin : List Nat) (bd : L2.St → Hp → (Hp → Prop) → Prop) : Prop where
  run : ∀ (pins : List (Addr × Obj)) (s : Shared) (σ : L2.St) (H : Hp) (Nx : Hp → Prop), Inv Y pins σ H s → bd σ H Nx → ∀ (kk : Unit → Sem Fin) (Q : Fin → Shared → Prop) (E : Value → Shared → Prop),
    (∀ s' H', Inv Y pins (wipe σ vin) H' s' → Nx H' → wpAny (model Y.prog Y.w) Y.A (kk ()) Q E s') → wpAny (model Y.prog Y.w) Y.A (act lst Y.env kk) Q E s
def bApp (D : Addr) (te : TE) : L2.St → Hp → (Hp → Prop) → Prop := fun σ H Nx => te σ H fun y H' => ∃ acc, H' D = some (.lst acc) ∧ acc.length < sizeLine ∧ Nx (upd H' D (.lst (acc ++ [y])))
theorem mF {α : Type} {t : Sem α} {Q Q' : α → Shared → Prop} {M : Model} {A : Around} {E E' : Value → Shared → Prop} {s : Shared} (hx : E = fun _ _ => False) (h : wpAny M A t Q E s) (hq : ∀ a s, Q a s → Q' a s) : wpAny M A t Q' E' s := by
  subst hx
  exact thnF h hq
theorem act_app {Y : Cx} {elt : Expr} {te : TE} {D : Addr} (hx : Y.xe = fun _ _ => False) (he : PE Y elt te) : Act Y (aApp elt) (.ref D) [] (bApp D te) := by
  refine ⟨fun pins s σ H Nx I h kk Q E hk => ?_⟩
  unfold aApp
  refine wpAny_bind (wpAny_bind (mF hx (he.run pins s σ H _ I h) fun u s1 ⟨y, H1, I1, ry, acc, hD, hz, nx⟩ => wpAny_bind ?_))
  exact app_ok I1 hD hz ry fun s2 I2 => wpAny_pure (hk s2 _ I2 nx)
/-- a clause's walk: W by the turn and a measure -/
def bFor (wi : TI) (g : TG) (tt : TT) (bd : L2.St → Hp → (Hp → Prop) → Prop) (vs : List Nat) : L2.St → Hp → (Hp → Prop) → Prop := fun σ H Nx => wi σ H fun J H1 => ∃ W : Nat → Nat → Hp → Prop, (∃ m, W 0 m H1) ∧ ∀ i m H, W i m H →
  (J.stop i H ∧ Nx H) ∨ (J.go i H ∧ ∃ Ny : Hp → Prop, (∀ H', Ny H' → ∃ m', m' < m ∧ W (i + 1) m' H') ∧ ∀ x H', J.yld i H x H' → g x (wipe σ vs) H' fun σ2 H2 => wipe σ2 vs = wipe σ vs ∧ tt σ2 H2 fun b H3 =>
    if b = true then bd σ2 H3 Ny else Ny H3)
theorem wipe_wipe {σ : L2.St} {i : Nat} : ∀ {vs : List Nat}, i ∈ vs → (wipe σ vs)[i]? = none ∨ (wipe σ vs)[i]? = some none
  | [], h => by cases h
  | v :: vs, h => by
    unfold wipe
    by_cases e : v = i
    · subst e
      by_cases l : v < (wipe σ vs).length
      · rw [List.getElem?_set_self l]; exact .inr rfl
      · rw [List.getElem?_eq_none (by simpa using l)]; exact .inl rfl
    · rw [List.getElem?_set_ne e]
      exact wipe_wipe ((List.mem_cons.mp h).resolve_left fun z => e z.symm)
/-- the loop of one clause -/
theorem clause_loop {Y : Cx} (hx : Y.xe = fun _ _ => False) (hc : Y.calm = true) {elt tg : Expr} {gs : List Comprehension} {sc : Scope} {ps p : Pos} {k : Nat} {ifs : List Expr} {act : CpAct} (te : TurnEq (.ListComp elt gs sc ps) k p tg ifs act)
    {J : It} {fp : List Addr} {src : Addr} {tn : Nat → Heap → Prop} (T : Turn Y.prog Y.w Y.K tg J fp src tn) {g : TG} {tt : TT} {lst : Value} {vin vs : List Nat} {bd : L2.St → Hp → (Hp → Prop) → Prop} (pg : PG Y tg g) (pt : PTs Y ifs tt) (ac : Act Y act lst vin bd) (hv : ∀ i ∈ vin, i ∈ vs)
    {pins : List (Addr × Obj)} {σ : L2.St} {W : Nat → Nat → Hp → Prop} {Done : Hp → Prop}
    (turn : ∀ i m H, W i m H → (J.stop i H ∧ Done H) ∨ (J.go i H ∧ ∃ Ny : Hp → Prop, (∀ H', Ny H' → ∃ m', m' < m ∧ W (i + 1) m' H') ∧ ∀ x H', J.yld i H x H' → g x (wipe σ vs) H' fun σ2 H2 => wipe σ2 vs = wipe σ vs ∧ tt σ2 H2 fun b H3 => if b = true then bd σ2 H3 Ny else Ny H3))
    {s : Shared} {H : Hp} {m0 : Nat} (I : Inv Y pins (wipe σ vs) H s) (st : tn 0 s.heap) (hf : ∀ b ∈ fp, FpOk Y pins H b) (w0 : W 0 m0 H) :
    codeAny (model Y.prog Y.w) Y.A (.compLoop (.ListComp elt gs sc ps) k (.ref src) lst Y.env) (fun r s' => r = .ok .next ∧ ∃ H', Inv Y pins (wipe σ vs) H' s' ∧ Done H') s := by
  have rest : ∀ {H' : Hp}, (∀ b ∈ fp, H' b = none) → ∀ b ∈ fp, FpOk Y pins H' b := fun n b hb => ⟨n b hb, (hf b hb).2⟩
  refine codeAny_loop rfl (fun m s' => ∃ i H', Inv Y pins (wipe σ vs) H' s' ∧ tn i s'.heap ∧ (∀ b ∈ fp, H' b = none) ∧ W i m H') (fun m s1 ⟨i, H1, I1, st1, n1, w1⟩ => ?_) m0 ⟨0, H, I, st, fun b hb => (hf b hb).1, w0⟩
  show wpAny _ Y.A ((compTurn (.ListComp elt gs sc ps) k (.ref src) lst Y.env).onRaise (fun z => do noteFrame z Y.env; theTreesLotGoes z)) _ _ s1
  refine wpAny_noted ?_
  rw [te]
  refine wpAny_bind (wpAny_standAt (wpAny_bind ?_))
  rcases turn i m H1 w1 with ⟨hs, hd⟩ | ⟨hg, Ny, hN, step⟩
  · refine thnF (T.done Y rfl rfl rfl hc i pins s1 _ H1 (fun _ _ => False) I1 (rest n1) st1 hs) fun r s2 ⟨hr, I2⟩ => ?_
    subst hr
    exact wpAny_pure ⟨rfl, H1, I2, hd⟩
  · refine thnF (T.item Y rfl rfl rfl hc i pins s1 _ H1 (fun _ _ => False) I1 (rest n1) st1 hg) fun r s2 ⟨u, hr, hu⟩ => ?_
    subst hr
    refine wpAny_bind (thnF hu fun _ s3 ⟨x, H3, I3, rx, yx, st3, n3⟩ => wpAny_bind ?_)
    have I3p := I3.pinned (rest n3) (T.obj _ _ st3)
    refine mF hx (pg.run _ s3 _ H3 x u _ I3p rx (step x H3 yx)) fun _ s4 ⟨σ4, H4, I4, hw, q4⟩ => wpAny_bind ?_
    have back : ∀ {σ5 : L2.St} {s5 : Shared} {H5 : Hp}, Inv Y (pins ++ pinsAt fp s3.heap) σ5 H5 s5 → σ5.length = σ4.length → (∀ (j : Nat) v, (wipe σ vs)[j]? = some (some v) → σ5[j]? = some (some v)) → Ny H5 →
        ∃ m', m' < m ∧ ∃ i H', Inv Y pins (wipe σ vs) H' s5 ∧ tn i s5.heap ∧ (∀ b ∈ fp, H' b = none) ∧ W i m' H' := fun {σ5 s5 H5} I5 hl hk ny => by
      obtain ⟨m', hm, w'⟩ := hN H5 ny
      have pinned : ∀ b ∈ fp, ∀ o, s3.heap.get? b = some o → s5.heap.get? b = some o ∧ H5 b = none := fun b hb o e => by
        have z := I5.pin (b, o) (List.mem_append_right _ (List.mem_append_right _ (mem_pinsAt hb e)))
        exact ⟨z.1, z.2.1⟩
      refine ⟨m', hm, i + 1, H5, (I5.unpinned (pins := pins)).weak ?_ hk, T.keep _ _ _ st3 fun b hb o e => (pinned b hb o e).1, fun b hb => ?_, w'⟩
      · rw [← hw, wipe_length, hl]
      · obtain ⟨o, e, _⟩ := T.obj _ _ st3 b hb
        exact (pinned b hb o e).2
    have kn : ∀ (j : Nat) v, (wipe σ vs)[j]? = some (some v) → σ4[j]? = some (some v) := fun j v e => by
      rw [← hw] at e
      exact (wipe_some e).1
    refine mF hx (pt.run _ s4 σ4 H4 _ I4 q4) fun b s5 ⟨H5, I5, q5⟩ => ?_
    cases b with
    | false => exact wpAny_pure ⟨rfl, back I5 rfl kn q5⟩
    | true =>
      refine ac.run _ s5 σ4 H5 Ny I5 q5 _ _ _ fun s6 H6 I6 ny => wpAny_pure ⟨rfl, back I6 (wipe_length _ _) (fun j v e => ?_) ny⟩
      have e0 := e
      rw [← hw] at e
      obtain ⟨e1, e2⟩ := wipe_some e
      rw [wipe_out fun z => e2 (hv j z)]
      exact e1
/-- a later clause is entered -/
theorem enter_clause {prog : Program} {w : World} {A : Around} {R : Result → Shared → Prop} {s : Shared} {elt tg it : Expr} {ifs : List Expr} {gs : List Comprehension} {sc : Scope} {ps : Pos} {k : Nat} {src lst : Value} {ev : PySem.Env} (hg : gs[k]? = some ⟨tg, it, ifs, 0⟩)
    (h0 : codeAny (model prog w) A (.compLoop (.ListComp elt gs sc ps) k src lst ev) R s)
    (h1 : ∀ (Q : Value → Shared → Prop) (E : Value → Shared → Prop), Q src s → wpAny (model prog w) A (pyIter src) Q E s) :
    codeAny (model prog w) A (.compStart (.ListComp elt gs sc ps) k src lst ev) R s := by
  refine codeAny_of_tree ?_
  show wpAny _ _ ((compStart (.ListComp elt gs sc ps) k src lst ev).onRaise (fun z => do noteFrame z ev; standAt theWindowsPlace)) _ _ s
  refine wpAny_notedAt ?_
  have hcl : (clausesOf (.ListComp elt gs sc ps))[k]? = some ⟨tg, it, ifs, 0⟩ := hg
  unfold compStart
  rw [hcl]
  show wpAny _ _ (ask >>= _) _ _ s
  refine wpAny_bind (wpAny_askSetting (wpAny_ite ?_))
  split
  · first
      | exact wpAny_bind (wpAny_pure (wpAny_pure ⟨rfl, h0⟩))
      | exact wpAny_pure ⟨rfl, h0⟩
  · refine wpAny_bind (wpAny_rule ?_)
    show wpAny _ _ (standAt it.pos >>= _) _ _ s
    exact wpAny_bind (wpAny_standAt (wpAny_bind (h1 _ _ (wpAny_pure ⟨rfl, h0⟩))))
theorem act_for {Y : Cx} (hx : Y.xe = fun _ _ => False) (hc : Y.calm = true) {elt tg it : Expr} {ifs : List Expr} {gs : List Comprehension} {sc : Scope} {ps : Pos} {k : Nat} {act : CpAct} (hg : gs[k]? = some ⟨tg, it, ifs, 0⟩) (te : TurnEq (.ListComp elt gs sc ps) k it.pos tg ifs act)
    {wi : TI} {g : TG} {tt : TT} {D : Addr} {vin vs : List Nat} {bd : L2.St → Hp → (Hp → Prop) → Prop} (hi : PI Y tg it wi) (pg : PG Y tg g) (pt : PTs Y ifs tt) (ac : Act Y act (.ref D) vin bd) (hv : ∀ i ∈ vin, i ∈ vs) (hs : ∀ z, foldedSetIterable it Y.env z = pure z) :
    Act Y (aFor (.ListComp elt gs sc ps) k it) (.ref D) vs (bFor wi g tt bd vs) := by
  refine ⟨fun pins s σ H Nx I h kk Q E hk => ?_⟩
  unfold aFor
  refine wpAny_bind (mF hx (hi.run pins s σ H _ I h) fun z s1 h1 => wpAny_bind (wpAny_standAt (wpAny_bind (wpAny_of_eq (hs z) (wpAny_bind (wpAny_holding (mF hx h1 fun zi s2 h2 => ?_)))))))
  obtain ⟨src, fp, tn, J, H2, e, I2, T, st, hf, W, ⟨m0, w0⟩, turn⟩ := h2
  subst e
  refine wpAny_bind (wpAny_runOwn ?_)
  rw [Around.mark_none]
  have loop := clause_loop hx hc te T pg pt ac hv turn (I2.weak (wipe_length _ _) fun j v e => (wipe_some e).1) st hf w0
  refine codeAny_mono (enter_clause hg loop fun Q E q => T.self _ 0 _ _ _ st q) fun r s3 hr => ?_
  obtain ⟨rfl, H3, I3, nx⟩ := hr
  first
    | exact hk s3 H3 I3 nx
    | exact wpAny_pure (hk s3 H3 I3 nx)
    | exact wpAny_bind (wpAny_pure (hk s3 H3 I3 nx))
end Cq
set_option Elab.async false
set_option linter.all false
set_option maxRecDepth 100000
set_option autoImplicit false
set_option maxHeartbeats 4000000
namespace Cq
open PySem L2 PySem.Spec PyProof.Rows
def tLcN (wi : TI) (g : TG) (tt : TT) (bd : Addr → L2.St → Hp → (Hp → Prop) → Prop) (vs : List Nat) : TE := fun σ H Q => wi σ H fun J H1 => ∀ D, H1 D = none → ∃ W : Nat → Nat → Hp → Prop, (∃ m, W 0 m (upd H1 D (.lst []))) ∧ ∀ i m H, W i m H →
  (J.stop i H ∧ Q (.ref D) H) ∨ (J.go i H ∧ ∃ Ny : Hp → Prop, (∀ H', Ny H' → ∃ m', m' < m ∧ W (i + 1) m' H') ∧ ∀ x H', J.yld i H x H' → g x (wipe σ vs) H' fun σ2 H2 => wipe σ2 vs = wipe σ vs ∧ tt σ2 H2 fun b H3 =>
    if b = true then bd D σ2 H3 Ny else Ny H3)
/-- what holds within the comprehension's block, wherever it stands -/
def InBlk (X : Cx) (scope : Scope) (P : Cx → Prop) : Prop := ∀ (s : Shared) (H : Hp) (C : Addr) (cl : List (Str × Addr)) (fp : List Addr), P (X.blk s H scope (compEnvC scope cl C X.env) fp)
theorem pe_lcN {X : Cx} {elt tg iter : Expr} {ifs : List Expr} {gs : List Comprehension} {scope : Scope} {own : List (Str × Nat)} {vin : List Nat} {pos : Pos} {wi : TI} {g : TG} {tt : TT} {act : CpAct} {bd : Addr → L2.St → Hp → (Hp → Prop) → Prop} (hc : X.calm = true) (hN : X.N.Nodup)
    (te : TurnEq (.ListComp elt (⟨tg, iter, ifs, 0⟩ :: gs) scope pos) 0 iter.pos tg ifs act) (hi : PI X tg iter wi) (ok : BlkOk X.N X.env.scope scope own) (hv : ∀ i ∈ vin, i ∈ own.map (·.2))
    (hg : InBlk X scope fun Y => PG Y tg g) (ht : InBlk X scope fun Y => PTs Y ifs tt) (ha : ∀ D, InBlk X scope fun Y => Act Y act (.ref D) vin (bd D)) (hs : ∀ z, foldedSetIterable iter X.env z = pure z := by intro _; rfl) :
    PE X (.ListComp elt (⟨tg, iter, ifs, 0⟩ :: gs) scope pos) (tLcN wi g tt bd (own.map (·.2))) := by
  refine ⟨fun pins s σ H Q I h => ?_⟩
  rw [eval_ListComp]
  have cellOf : ∀ y ∈ scope.names, y.2 = .free → ∃ c, X.env.cells.lookup y.1 = some c := fun y hy e => (ok.free y hy e).elim (fun k => I.ok.has _ (.inl k)) fun k => I.ok.has _ (.inr k)
  refine wpAny_comprehension_free rfl hs (closure_ok cellOf) ok.kind (fun y hy e => by rw [ok.uniq y hy, e]) (thn (hi.run pins s σ H _ I h) fun z u1 hz => thn hz fun zi u2 h2 => ?_)
  obtain ⟨src, fp, tn, J, H2, e, I2, T, st2, f2, q⟩ := h2
  subst e
  refine wpAny_newObj_type (newEnv_comp ?_) (by show 0 ≤ sizeLine; decide)
  generalize hD : u2.heap.objs.size = D
  have fresh : H2 D = none := I2.hok.fresh (Nat.le_of_eq hD)
  obtain ⟨W, ⟨m0, w0⟩, turn⟩ := q D fresh
  generalize hu3 : ({ u2 with heap := u2.heap.push { cls := .type "list", data := .seq ([] : List Value).toArray } } : Shared) = u3
  have hp3 : u3.heap = u2.heap.push { cls := .type "list", data := .seq ([] : List Value).toArray } := by rw [← hu3]
  have I3 : Inv X pins σ (upd H2 D (.lst [])) u3 := by
    rw [← hu3]
    exact I2.laid (t' := u2.toks) (fun _ _ e => Heap.get?_push_of_some _ e) (Nat.le_of_eq hD) ⟨Nat.zero_le _, [], 0, .nil, by rw [← hD]; exact Heap.get?_push_size _ rfl⟩
  have small : ∀ b ∈ fp, b < u2.heap.objs.size := fun b hb => let ⟨_, e, _⟩ := T.obj _ _ st2 b hb; Heap.lt_size e
  have f3 : ∀ b ∈ fp, FpOk X pins (upd H2 D (.lst [])) b ∧ b < u3.heap.objs.size := fun b hb => by
    have l := small b hb
    refine ⟨⟨?_, (f2 b hb).2⟩, by rw [hp3, Heap.size_push]; exact Nat.lt_succ_of_lt l⟩
    rw [upd_ne (by rw [← hD]; exact Nat.ne_of_lt l)]
    exact (f2 b hb).1
  have st3 : tn 0 u3.heap := T.keep _ _ _ st2 fun _ _ _ e => by rw [hp3]; exact Heap.get?_push_of_some _ e
  have I4 := block_start I3 ok hN f3
  generalize hcl : cellsFrom (u3.heap.objs.size + 1) scope.names (cloFrom X.env.cells scope.names []) = cl at I4
  have pg := hg u3 (upd H2 D (.lst [])) u3.heap.objs.size cl fp
  have pt := ht u3 (upd H2 D (.lst [])) u3.heap.objs.size cl fp
  have pa := ha D u3 (upd H2 D (.lst [])) u3.heap.objs.size cl fp
  generalize hu4 : ({ u3 with heap := pushCells (u3.heap.push { cls := .type "dict", data := .dict #[] }) scope.names } : Shared) = u4 at I4
  have st4 : tn 0 u4.heap := T.keep _ _ _ st3 fun _ _ _ e => by rw [← hu4]; exact pushCells_keeps _ _ _ _ (Heap.get?_push_of_some _ e)
  have fb : ∀ b ∈ fp, FpOk (X.blk u3 (upd H2 D (.lst [])) scope (compEnvC scope cl u3.heap.objs.size X.env) fp) [] (upd H2 D (.lst [])) b := fun b hb =>
    ⟨(f3 b hb).1.1, (I4.ok.exf b hb).1, I4.ok.exfs b hb, .inl hb, fun x c e => (I4.ok.exf b hb).2 x c e, fun p hp => absurd (show p ∈ ([] : List (Addr × Obj)) ++ [] from hp) (by simp)⟩
  have loop := clause_loop (Y := X.blk u3 (upd H2 D (.lst [])) scope (compEnvC scope cl u3.heap.objs.size X.env) fp) rfl hc te T pg pt pa hv turn I4 st4 fb w0
  have loop' := codeAny_compStart_list loop (T.self X.A 0 _ _ _ st4 loop)
  subst hcl
  subst hu4
  subst hu3
  refine codeAny_mono loop' fun r u5 hr => ?_
  obtain ⟨rfl, H5, I5, q5⟩ := hr
  have I6 : Inv X pins σ H5 u5 := I3.call' (ch := fp) I5.os I5.base I5.hok I5.bare fun b hb => ⟨(f3 b hb).1.2.2.2.1, (f3 b hb).1.2.1, (f3 b hb).1.2.2.2.2.1, (f3 b hb).1.2.2.2.2.2⟩
  obtain ⟨mm, hn, _⟩ := I5.loc
  have noC := I5.free
  refine ⟨mm, hn, fun h6 sb => ?_⟩
  obtain ⟨f0, f1, f2', f3', f4, f5⟩ := I3.fpOk (Nat.le_refl _) noC
  exact ⟨.ref D, H5, I6.turned (t' := u5.toks) (fun b o hb e => (sb.2 b hb).trans e) f0 f1 f3' f4 f5, rfl, q5⟩
end Cq
set_option Elab.async false
set_option linter.all false
set_option maxRecDepth 100000
set_option autoImplicit false
set_option maxHeartbeats 4000000
namespace Cq
open PySem L2 PySem.Spec PyProof.Rows
section
variable {X : Cx} {tg : Expr}
theorem cr_range1 : CallR X (.type "range") (fun vs H Q => ∃ j, vs = [V.int j] ∧ ∀ p, H p = none → Q (.ref p) (upd H p (.rng 0 j))) := by
  intro pins s σ H vs us Q I r h
  obtain ⟨j, rfl, q⟩ := h
  obtain ⟨u, rfl, ru⟩ := vals1 r
  obtain ⟨t, rfl⟩ := ru
  refine call_range_1 ⟨.ref s.heap.objs.size, upd H s.heap.objs.size (.rng 0 j), I.laid (t' := s.toks + 1 + 1) (fun _ _ e => Heap.get?_push_of_some _ e) (Nat.le_refl _) ?_, rfl, q _ (I.hok.fresh (Nat.le_refl _))⟩
  exact ⟨s.toks, t, s.toks + 1, Heap.get?_push_size _ rfl⟩
/-- a kept range is walked -/
def iRg (tl : TE) : TI := fun σ H R => tl σ H fun x H1 => ∃ a j, x = .ref a ∧ H1 a = some (.rng 0 j) ∧ 0 ≤ j ∧ j < 2 ^ 62 ∧ R (Itr 0 j.toNat) H1
theorem pi_rg {l : Expr} {tl : TE} (hl : PE X l tl) : PI X tg l (iRg tl) := by
  refine ⟨fun pins s σ H R I h => thn (hl.run pins s σ H _ I h) fun v s1 ⟨x, H1, I1, r1, a, j, e, ha, j0, j1, q⟩ => ?_⟩
  subst e
  cases r1
  obtain ⟨t, u, v, hg⟩ := I1.hok a _ ha
  refine wpAny_pyIter_range (a := 0) (b := j) (c := 1) (t := t) (u := u) (v := v) hg (small_one (by decide) (by decide) (by omega) j1) ?_
  refine ⟨_, [s1.heap.objs.size], _, _, H1, rfl, I1.kept (t' := s1.toks) fun _ _ e => Heap.get?_push_of_some _ e, turn_range _ 0 j.toNat, ?_, fun b hb => ?_, q⟩
  · have e1 : ((j.toNat : Nat) : Int) - ((0 : Nat) : Int) = Builtin.Range.rangeSize 0 j 1 := by rw [rangeSize_one]; split <;> omega
    show IsRangeIter _ _ (0 + ((0 : Nat) : Int) * 1) _ 1
    rw [e1]
    exact Heap.get?_push_size _ rfl
  · obtain rfl : b = s1.heap.objs.size := by simpa using hb
    exact I1.fpOk (Nat.le_refl _) (I1.hok.fresh (Nat.le_refl _))
end
end Cq
set_option Elab.async false
set_option linter.all false
set_option maxRecDepth 100000
set_option autoImplicit false
set_option maxHeartbeats 4000000
/-! letters = range(size); [(x, y, z) for x in letters for y in letters for z in letters] -/
namespace Dn
open PySem L2 Evl Cq PyProof.Rows
def t3 (n : Nat) : List (Int × Int × Int) := (rgI n).flatMap fun x => (rgI n).flatMap fun y => (rgI n).map fun z => (x, y, z)
def tT (t : Int × Int × Int) : D := .tuple [.int t.1, .int t.2.1, .int t.2.2]
def vT (t : Int × Int × Int) : HO := .tup [.int t.1, .int t.2.1, .int t.2.2]
theorem flat_len {α β : Type} (l : List α) (f : α → List β) (k : Nat) (h : ∀ a, a ∈ l → (f a).length = k) : (l.flatMap f).length = l.length * k := by
  induction l with
  | nil => simp
  | cons a l ih =>
    rw [List.flatMap_cons, List.length_append, h a (by simp), ih fun b hb => h b (by simp [hb]), List.length_cons, Nat.succ_mul, Nat.add_comm]
theorem t3_len (n : Nat) : (t3 n).length = n * (n * n) := by
  unfold t3
  rw [flat_len _ _ (n * n) fun x _ => ?_, rgI_len]
  rw [flat_len _ _ n fun y _ => by rw [List.length_map, rgI_len], rgI_len]
theorem rgI_succ (n : Nat) : rgI (n + 1) = rgI n ++ [(n : Int)] := by
  unfold rgI
  rw [List.range_succ, List.map_append]
  rfl
theorem mem_t3 {n : Nat} {t : Int × Int × Int} : t ∈ t3 n ↔ (0 ≤ t.1 ∧ t.1 < n) ∧ (0 ≤ t.2.1 ∧ t.2.1 < n) ∧ 0 ≤ t.2.2 ∧ t.2.2 < n := by
  unfold t3
  simp only [List.mem_flatMap, List.mem_map, mem_rgI]
  constructor
  · rintro ⟨x, hx, y, hy, z, hz, rfl⟩; exact ⟨hx, hy, hz⟩
  · rintro ⟨hx, hy, hz⟩; exact ⟨t.1, hx, t.2.1, hy, t.2.2, hz, rfl⟩
theorem pair_app {α β : Type} {R : α → β → Prop} : ∀ {a c : List α} {b d : List β}, Paired R a b → Paired R c d → Paired R (a ++ c) (b ++ d)
  | _, _, _, _, .nil, q => q
  | _, _, _, _, .cons h p, q => .cons h (pair_app p q)
/-- the list at L holds new triples -/
def Tri (H1 H : Hp) (L : Addr) (ts : List (Int × Int × Int)) : Prop := Ex H1 H ∧ ∃ us, H L = some (.lst us) ∧ Paired (fun (t : Int × Int × Int) (u : V) => ∃ a, u = .ref a ∧ a ≠ L ∧ H1 a = none ∧ H a = some (vT t)) ts us
theorem Tri.snoc {H1 H : Hp} {L q : Addr} {ts : List (Int × Int × Int)} (h : Tri H1 H L ts) (hL : H1 L = none) (hq : H q = none) (t : Int × Int × Int) : ∃ us, upd H q (vT t) L = some (.lst us) ∧ us.length = ts.length ∧ Tri H1 (upd (upd H q (vT t)) L (.lst (us ++ [.ref q]))) L (ts ++ [t]) := by
  obtain ⟨e, us, hl, hp⟩ := h
  have qL : q ≠ L := fun z => by rw [z, hl] at hq; cases hq
  refine ⟨us, by rw [upd_ne qL.symm]; exact hl, hp.length.symm, ?_, us ++ [.ref q], upd_same, ?_⟩
  · intro a o w
    rw [upd_ne (fun z => by rw [z, hL] at w; cases w), upd_ne (fun z => by rw [← z, e a o w] at hq; cases hq)]
    exact e a o w
  · refine pair_app (Paired.mapP hp fun s u z => ?_) (.cons ⟨q, rfl, qL, ?_, by rw [upd_ne qL, upd_same]⟩ .nil)
    · obtain ⟨a, e1, e2, e3, e4⟩ := z
      exact ⟨a, e1, e2, e3, by rw [upd_ne e2, upd_ne (fun z => by rw [← z, e4] at hq; cases hq)]; exact e4⟩
    · cases w : H1 q with
      | none => rfl
      | some o => rw [e q o w] at hq; cases hq
def g3 : DS := fun E ρ => ∃ n : Nat, ρ = [some (.im (.int n)), none, none, none, none] ∧ n ≤ 60 ∧ E.rt (.list ((t3 n).map tT)) ρ
theorem tri_step {H1 H : Hp} {L : Addr} {ts : List (Int × Int × Int)} (h : Tri H1 H L ts) (hL : H1 L = none) (hl : ts.length < 16777216) {x y z : Int} {σ : L2.St} (e2 : σ[2]? = some (some (.int x))) (e3 : σ[3]? = some (some (.int y))) (e4 : σ[4]? = some (some (.int z))) {Nx : Hp → Prop} (k : ∀ H', Tri H1 H' L (ts ++ [(x, y, z)]) → Nx H') :
    bApp L (tTup (tCons (tVar 2) (tCons (tVar 3) (tCons (tVar 4) tNil)))) σ H Nx := by
  refine ⟨_, e2, _, e3, _, e4, by show 3 ≤ sizeLine; decide, fun q hq => ?_⟩
  obtain ⟨us, h1, h2, h3⟩ := h.snoc hL hq (x, y, z)
  exact ⟨us, h1, by rw [h2, sizeLine_eq]; exact hl, k _ h3⟩
/-- a clause over 0, 1, .. n - 1 that only lengthens the list -/
theorem clause_W {i : Nat} {bd : L2.St → Hp → (Hp → Prop) → Prop} {vs : List Nat} {H1 : Hp} {L : Addr} {n : Nat} (f : Int → List (Int × Int × Int)) {ts : List (Int × Int × Int)} {σ : L2.St} {H : Hp} {Nx : Hp → Prop}
    (hw : ∀ x : V, wipe ((wipe σ vs).set i (some x)) vs = wipe σ vs)
    (hb : ∀ (x : Nat) (us : List (Int × Int × Int)) (H' : Hp) (Ny : Hp → Prop), x < n → Tri H1 H' L us → us = ts ++ (rgI x).flatMap f → (∀ H2, Tri H1 H2 L (us ++ f x) → Ny H2) → bd ((wipe σ vs).set i (some (.int x))) H' Ny)
    (h : Tri H1 H L ts) (k : ∀ H', Tri H1 H' L (ts ++ (rgI n).flatMap f) → Nx H') :
    ∃ W : Nat → Nat → Hp → Prop, (∃ m, W 0 m H) ∧ ∀ j m H, W j m H → ((Itr 0 (n : Int).toNat).stop j H ∧ Nx H) ∨ ((Itr 0 (n : Int).toNat).go j H ∧ ∃ Ny : Hp → Prop, (∀ H', Ny H' → ∃ m', m' < m ∧ W (j + 1) m' H') ∧ ∀ x H', (Itr 0 (n : Int).toNat).yld j H x H' →
      gName i x (wipe σ vs) H' fun σ2 H2 => wipe σ2 vs = wipe σ vs ∧ tYes σ2 H2 fun b H3 => if b = true then bd σ2 H3 Ny else Ny H3) := by
  refine ⟨fun j m H' => m = n - j ∧ j ≤ n ∧ Tri H1 H' L (ts ++ (rgI j).flatMap f), ⟨n, by simp, Nat.zero_le _, by simpa [rgI] using h⟩, ?_⟩
  rintro j m H' ⟨rfl, hj, t⟩
  by_cases l : j < n
  · refine .inr ⟨by show j < (n : Int).toNat; omega, fun H2 => Tri H1 H2 L (ts ++ (rgI (j + 1)).flatMap f), fun H2 q => ⟨n - (j + 1), by omega, rfl, l, q⟩, fun x H2 y => ?_⟩
    obtain ⟨rfl, rfl⟩ := y
    refine ⟨hw _, ?_⟩
    show bd _ _ _
    rw [Int.zero_add]
    refine hb j _ _ _ l t rfl fun H3 q => ?_
    rw [rgI_succ, List.flatMap_append, ← List.append_assoc]
    simpa using q
  · have e : j = n := by omega
    subst e
    exact .inl ⟨by show (j : Int).toNat ≤ j; omega, k _ t⟩
theorem clause_ok {tl : TE} {i : Nat} {bd : L2.St → Hp → (Hp → Prop) → Prop} {vs : List Nat} {H1 : Hp} {L p : Addr} {n : Nat} (f : Int → List (Int × Int × Int)) {ts : List (Int × Int × Int)} {σ : L2.St} {H : Hp} {Nx : Hp → Prop} (hp : H1 p = some (.rng 0 n)) (hn : n < 100)
    (ht : ∀ (H' : Hp) (Q : VK), Q (.ref p) H' → tl σ H' Q) (hw : ∀ x : V, wipe ((wipe σ vs).set i (some x)) vs = wipe σ vs)
    (hb : ∀ (x : Nat) (us : List (Int × Int × Int)) (H' : Hp) (Ny : Hp → Prop), x < n → Tri H1 H' L us → us = ts ++ (rgI x).flatMap f → (∀ H2, Tri H1 H2 L (us ++ f x) → Ny H2) → bd ((wipe σ vs).set i (some (.int x))) H' Ny)
    (h : Tri H1 H L ts) (k : ∀ H', Tri H1 H' L (ts ++ (rgI n).flatMap f) → Nx H') : bFor (iRg tl) (gName i) tYes bd vs σ H Nx :=
  ht H _ ⟨p, n, rfl, h.1 _ _ hp, by omega, by omega, clause_W f hw hb h k⟩
theorem flat_one {α β : Type} (l : List α) (f : α → β) : (l.flatMap fun a => [f a]) = l.map f := by
  induction l with
  | nil => rfl
  | cons a l ih => rw [List.flatMap_cons, ih]; rfl
theorem tri_rp {K : PySem.W.Frag} {O : Addr → Prop} {H1 H : Hp} {L : Addr} (hO : ∀ a, O a → H1 a ≠ none) : ∀ {ts : List (Int × Int × Int)} {us : List V}, Paired (fun (t : Int × Int × Int) (u : V) => ∃ a, u = .ref a ∧ a ≠ L ∧ H1 a = none ∧ H a = some (vT t)) ts us → RpAll K (hide O H) us (ts.map tT)
  | _, _, .nil => .nil
  | _, _, .cons ⟨a, e, _, e1, e2⟩ r => by
    subst e
    exact .cons (.tup (hide_some.2 ⟨fun w => hO a w e1, e2⟩) (.cons (.int _) (.cons (.int _) (.cons (.int _) .nil)))) (tri_rp hO r)
section
variable {X : Cx}
theorem jss_threes {sc : Scope} {q1 q2 q3 q4 q5 p2 p3 p4 p5 p6 p7 p8 p9 pa pb pc pd : Pos} {kk} (hc : X.calm = true) (hN : X.N.Nodup) (h0 : X.N = (["size", "letters", "x", "y", "z"] : List Str)) (hm : X.mg "range" = none) (hg : Gl X "range")
    (v0 : Vis X.env.scope "size") (l1 : Loc X.env.scope "letters") (f1 : X.fn "letters" = true ∨ X.env.scope.names.lookup ("letters" : Str) = some .local) (v1 : Vis X.env.scope "letters") (ok : BlkOk X.N X.env.scope sc [("x", 2), ("y", 3), ("z", 4)])
    (pi1 : InBlk X sc fun Y => PE Y (.Name "letters" p5) (tVar 1)) (pi2 : InBlk X sc fun Y => PE Y (.Name "letters" p7) (tVar 1))
    (gx : InBlk X sc fun Y => PG Y (.Name "x" p2) (gName 2)) (gy : InBlk X sc fun Y => PG Y (.Name "y" p4) (gName 3)) (gz : InBlk X sc fun Y => PG Y (.Name "z" p6) (gName 4))
    (el : InBlk X sc fun Y => PE Y (.Tuple [.Name "x" p8, .Name "y" p9, .Name "z" pa] kk pb) (tTup (tCons (tVar 2) (tCons (tVar 3) (tCons (tVar 4) tNil)))))
    (hs : swapsWith (.Call (.Name "range" q2) [.Name "size" q3] [] q4) (some (.Name "letters" q1)) q5.line X.env = pure false)
    (hst : starEach [.Name "size" q3] X.env = (false, eval (.Name "size" q3) X.env) :: starEach [] X.env) (hpl : (backTo q4 (starEach [] X.env)).any (·.1) = false) :
    JSs X [.Assign [.Name "letters" q1] (.Call (.Name "range" q2) [.Name "size" q3] [] q4) q5, .Return (some (.ListComp (.Tuple [.Name "x" p8, .Name "y" p9, .Name "z" pa] kk pb) [⟨.Name "x" p2, .Name "letters" p3, [], 0⟩, ⟨.Name "y" p4, .Name "letters" p5, [], 0⟩, ⟨.Name "z" p6, .Name "letters" p7, [], 0⟩] sc pc)) pd] g3 := by
  have n0 : X.N[0]? = some ("size" : Str) := by rw [h0]; rfl
  have n1 : X.N[1]? = some ("letters" : Str) := by rw [h0]; rfl
  have a1 : PS X (.Assign [.Name "letters" q1] (.Call (.Name "range" q2) [.Name "size" q3] [] q4) q5) _ := ps_set (i := 1) hN n1 l1 (pe_callTy cr_range1 hg hm boot_range (pa_cons (pe_var (i := 0) n0 v0) pa_nil hst) (by decide) (by decide) hst hpl) hs f1
  have acts : ∀ D, InBlk X sc fun Y => Act Y (aFor (.ListComp (.Tuple [.Name "x" p8, .Name "y" p9, .Name "z" pa] kk pb) [⟨.Name "x" p2, .Name "letters" p3, [], 0⟩, ⟨.Name "y" p4, .Name "letters" p5, [], 0⟩, ⟨.Name "z" p6, .Name "letters" p7, [], 0⟩] sc pc) 1 (.Name "letters" p5)) (.ref D) [3, 4]
      (bFor (iRg (tVar 1)) (gName 3) tYes (bFor (iRg (tVar 1)) (gName 4) tYes (bApp D (tTup (tCons (tVar 2) (tCons (tVar 3) (tCons (tVar 4) tNil))))) [4]) [3, 4]) := fun D s H C cl fp => by
    have e1 := el s H C cl fp
    have y1 := pi1 s H C cl fp
    have y2 := pi2 s H C cl fp
    have z1 := gy s H C cl fp
    have z2 := gz s H C cl fp
    generalize hY : X.blk s H sc (compEnvC sc cl C X.env) fp = Y at e1 y1 y2 z1 z2
    have x1 : Y.xe = fun _ _ => False := by rw [← hY]
    have x2 : Y.calm = true := by rw [← hY]; exact hc
    exact act_for x1 x2 rfl turn3_1 (pi_rg (tg := .Name "y" p4) y1) z1 pts_nil (act_for x1 x2 rfl turn3_2 (pi_rg (tg := .Name "z" p6) y2) z2 pts_nil (act_app x1 e1) (by intro i hi; cases hi) (fun _ => rfl)) (by intro i hi; simp at hi ⊢; exact .inr hi) (fun _ => rfl)
  have a2 := pe_lcN (X := X) (pos := pc) (own := [("x", 2), ("y", 3), ("z", 4)]) (vin := [3, 4]) (act := aFor _ 1 (.Name "letters" p5))
    (bd := fun D => bFor (iRg (tVar 1)) (gName 3) tYes (bFor (iRg (tVar 1)) (gName 4) tYes (bApp D (tTup (tCons (tVar 2) (tCons (tVar 3) (tCons (tVar 4) tNil))))) [4]) [3, 4]) (wi := iRg (tVar 1)) (g := gName 2) (tt := tYes)
    hc hN turn3_0 (pi_rg (tg := .Name "x" p2) (pe_var (i := 1) (pos := p3) n1 v1)) ok (by decide) gx (fun _ _ _ _ _ => pts_nil)
    acts (fun _ => rfl)
  refine ⟨_, pss_cons a1 (pss_one (ps_ret a2)), fun T ρ σ H E D r h k => ?_⟩
  obtain ⟨n, rfl, hn, h⟩ := h
  obtain ⟨v, s0, rv⟩ := r.im 0 _ rfl
  cases rv
  refine ⟨_, s0, _, rfl, fun p hp => ?_⟩
  have len : σ.length = 5 := by rw [← r.len]; rfl
  obtain ⟨b0, b1, b2, b3, b4, rfl⟩ : ∃ b0 b1 b2 b3 b4, σ = [b0, b1, b2, b3, b4] := by
    match σ, len with
    | [b0, b1, b2, b3, b4], _ => exact ⟨_, _, _, _, _, rfl⟩
  simp at s0
  subst s0
  have e1 := Ex.new (o := .rng 0 n) hp
  refine ⟨_, rfl, p, n, rfl, upd_same, by omega, by omega, fun L hL => ?_⟩
  have lP : upd H p (.rng 0 n) p = some (.rng 0 n) := upd_same
  refine clause_W (i := 2) (vs := [2, 3, 4]) (H1 := upd H p (.rng 0 n)) (L := L) (n := n) (σ := [some (.int n), some (.ref p), b2, b3, b4])
    (bd := bFor (iRg (tVar 1)) (gName 3) tYes (bFor (iRg (tVar 1)) (gName 4) tYes (bApp L (tTup (tCons (tVar 2) (tCons (tVar 3) (tCons (tVar 4) tNil))))) [4]) [3, 4])
    (fun x => (rgI n).flatMap fun y => (rgI n).map fun z => (x, y, z)) (ts := []) (Nx := fun H' => D.rt (.ref L) H') (fun x => rfl) (fun x us H' Ny hx t e k1 => ?_) ⟨Ex.new hL, [], upd_same, .nil⟩ (fun H' t => ?_)
  · have cap : ∀ us : List (Int × Int × Int), us.length ≤ n * (n * n) → us.length < 16777216 := fun us l => by
      have a := Nat.mul_le_mul hn (Nat.mul_le_mul hn hn)
      omega
    refine clause_ok (p := p) (n := n) (fun y => (rgI n).map fun z => ((x : Int), y, z)) lP (by omega) (fun H' Q q => ⟨_, rfl, q⟩) (fun x => rfl) (fun y us2 H2 Nz hy t2 e2 k2 => ?_) t k1
    refine clause_ok (p := p) (n := n) (fun z => [((x : Int), (y : Int), z)]) lP (by omega) (fun H' Q q => ⟨_, rfl, q⟩) (fun x => rfl) (fun z us3 H3 Nw hz t3' e3 k3 => ?_) t2 (fun H3 q => k2 H3 (by rw [← flat_one]; exact q))
    refine tri_step t3' hL (cap _ ?_) rfl rfl rfl k3
    have c1 : us.length = x * (n * n) := by
      rw [e, List.nil_append, flat_len _ _ (n * n) fun a _ => ?_, rgI_len]
      rw [flat_len _ _ n fun b _ => by rw [List.length_map, rgI_len], rgI_len]
    have c2 : us2.length = us.length + y * n := by
      rw [e2, List.length_append, flat_len _ _ n fun b _ => by rw [List.length_map, rgI_len], rgI_len]
    have c3 : us3.length = us2.length + z := by
      rw [e3, List.length_append, flat_len _ _ 1 fun b _ => rfl, rgI_len, Nat.mul_one]
    have h1 : (x + 1) * (n * n) ≤ n * (n * n) := Nat.mul_le_mul_right _ hx
    have h2 : (y + 1) * n ≤ n * n := Nat.mul_le_mul_right _ hy
    rw [Nat.succ_mul] at h1 h2
    omega
  · obtain ⟨eX, us, hl, hp3⟩ := t
    rw [List.nil_append] at hp3
    have eX' : Ex H H' := e1.trans eX
    have lN : H L = none := by
      cases w : H L with
      | none => rfl
      | some o => rw [e1 L o w] at hL; cases hL
    have r2 := (r.grow eX').congr (σ' := [some (.int n), some (.ref p), b2, b3, b4]) rfl (fun i sv w => by
      match i, w with
      | 0, _ => rfl
      | 1, w => cases w
      | 2, w => cases w
      | 3, w => cases w
      | 4, w => cases w
      | i + 5, w => simp at w)
    have noO : ∀ a, Hd T [some (.im (.int n)), none, none, none, none] [some (.int n), some (.ref p), b2, b3, b4] a → upd H p (.rng 0 n) a ≠ none := fun a w => by
      rcases w with w | ⟨i, m, w, _⟩
      · have := (r.dom a w).1
        cases q : H a with
        | none => exact absurd q this
        | some o => rw [e1 a o q]; simp
      · match i, w with
        | 0, w => cases w
        | 1, w => cases w
        | 2, w => cases w
        | 3, w => cases w
        | 4, w => cases w
        | i + 5, w => simp at w
    have po : Po [some (.im (.int n)), none, none, none, none] [some (.int n), b1, b2, b3, b4] H [some (.im (.int n)), none, none, none, none] [some (.int n), some (.ref p), b2, b3, b4] H' := ⟨fun a o _ w => eX' a o w, fun a ⟨i, m, w, _⟩ => by
      match i, w with
      | 0, w => cases w
      | 1, w => cases w
      | 2, w => cases w
      | 3, w => cases w
      | 4, w => cases w
      | i + 5, w => simp at w, fun a w => by
      cases q : H a with
      | none => exact absurd q w
      | some o => rw [eX' a o q]; simp⟩
    exact k.rt _ _ _ _ _ r2 po (.lst (hide_some.2 ⟨fun w => noO L w hL, hl⟩) (tri_rp noO hp3)) h
end
end Dn
set_option Elab.async false
set_option linter.all false
set_option maxRecDepth 100000
set_option autoImplicit false
set_option maxHeartbeats 4000000
/-! Lists of lists that are changed through a second name: the frame's new lists are told by their shape alone. -/
namespace Dn
open PySem L2 Evl
/-- no list and no dict stands in it -/
inductive NL : D → Prop
  | non : NL .none
  | bl (b : Bool) : NL (.bool b)
  | int (i : Int) : NL (.int i)
  | str (x : Str) : NL (.str x)
  | tup {ds : List D} : (∀ d, d ∈ ds → NL d) → NL (.tuple ds)
/-- lists of such, of any depth -/
inductive PL : D → Prop
  | nl {d : D} : NL d → PL d
  | lst {ds : List D} : (∀ d, d ∈ ds → PL d) → PL (.list ds)
def notL : D → Prop
  | .list _ => False
  | _ => True
/-- some lists of notL things are now es -/
inductive Ch (es : List D) : D → D → Prop
  | nl {d : D} : NL d → Ch es d d
  | repl {ds : List D} : (∀ d, d ∈ ds → notL d) → es.length = ds.length → Ch es (.list ds) (.list es)
  | lst {ds ds' : List D} : ds'.length = ds.length → (∀ (i : Nat) (d d' : D), ds[i]? = some d → ds'[i]? = some d' → Ch es d d') → Ch es (.list ds) (.list ds')
section
variable {K : PySem.W.Frag} {T B : Addr → Prop} {p : Addr} {ρ ρ1 ρ' : Env} {σ σ1 : L2.St} {H H1 H' G G' : Hp}
theorem NL.notL {d : D} (h : NL d) : notL d := by cases h <;> trivial
mutual
theorem nl_keep {b : Addr} (hb : ∀ a o, a ≠ b → G a = some o → G' a = some o) {xs : List V} (hl : G b = some (.lst xs)) : ∀ {v : V} {d : D}, NL d → Rp K G v d → Rp K G' v d
  | _, _, _, .non => .non
  | _, _, _, .bl b => .bl b
  | _, _, _, .int b => .int b
  | _, _, _, .str b => .str b
  | _, _, n, .lst _ _ => nomatch n
  | _, _, .tup n, .tup h r => .tup (hb _ _ (fun z => by rw [z, hl] at h; cases h) h) (nls_keep hb hl n r)
  | _, _, n, .dct _ _ z => by subst z; cases n
  | _, _, n, .frz _ _ => nomatch n
theorem nls_keep {b : Addr} (hb : ∀ a o, a ≠ b → G a = some o → G' a = some o) {xs : List V} (hl : G b = some (.lst xs)) : ∀ {vs : List V} {ds : List D}, (∀ d, d ∈ ds → NL d) → RpAll K G vs ds → RpAll K G' vs ds
  | _, _, _, .nil => .nil
  | _, _, n, .cons h r => .cons (nl_keep hb hl (n _ (by simp)) h) (nls_keep hb hl (fun d hd => n d (by simp [hd])) r)
end
/-- of a value that is related to something without lists -/
theorem notL_same {v : V} {d e : D} (h : Rp K G v d) (n : NL d) (h2 : Rp K G v e) : notL e := by
  cases h2 with
  | lst q _ =>
    cases h with
    | lst _ _ => cases n
    | tup p _ => rw [q] at p; cases p
    | dct _ _ z => subst z; cases n
    | frz _ _ => cases n
  | _ => trivial
theorem notL_all : ∀ {vs : List V} {ds es : List D}, RpAll K G vs ds → (∀ d, d ∈ ds → NL d) → RpAll K G vs es → ∀ e, e ∈ es → notL e
  | _, _, _, .nil, _, .nil => by simp
  | _, _, _, .cons h r, n, .cons h2 r2 => fun e he => by
    rcases List.mem_cons.mp he with rfl | he
    · exact notL_same h (n _ (by simp)) h2
    · exact notL_all r (fun d hd => n d (by simp [hd])) r2 e he
/-- the list at b is changed -/
theorem pl_change {b : Addr} {xs us : List V} {ds0 es : List D} (hb : ∀ a o, a ≠ b → G a = some o → G' a = some o) (hl : G b = some (.lst xs)) (hl' : G' b = some (.lst us)) (h0 : RpAll K G xs ds0) (n0 : ∀ d, d ∈ ds0 → NL d) (hu : RpAll K G us es) (ne : ∀ d, d ∈ es → NL d) (le : us.length = xs.length) :
    ∀ {d : D}, PL d → ∀ {v : V}, Rp K G v d → ∃ d', Rp K G' v d' ∧ Ch es d d' := by
  intro d p
  induction p with
  | nl n => exact fun r => ⟨_, nl_keep hb hl n r, .nl n⟩
  | @lst ds _ ih =>
    intro v r
    cases r with
    | @lst a ys _ q rr =>
      by_cases e : a = b
      · subst e
        rw [hl] at q; cases q
        exact ⟨.list es, .lst hl' (nls_keep hb hl ne hu), .repl (notL_all h0 n0 rr) (by rw [← hu.length, le, rr.length])⟩
      · have all : ∀ {ys : List V} {ds : List D}, (∀ d, d ∈ ds → ∀ {v : V}, Rp K G v d → ∃ d', Rp K G' v d' ∧ Ch es d d') → RpAll K G ys ds → ∃ ds', RpAll K G' ys ds' ∧ ds'.length = ds.length ∧ ∀ (i : Nat) (d d' : D), ds[i]? = some d → ds'[i]? = some d' → Ch es d d' := by
          intro ys ds f r
          induction ds generalizing ys with
          | nil => cases r; exact ⟨[], .nil, rfl, by simp⟩
          | cons d ds ih2 =>
            cases r with
            | cons r1 r2 =>
              obtain ⟨d', a1, a2⟩ := f d (by simp) r1
              obtain ⟨ds', b1, b2, b3⟩ := ih2 (fun d hd => f d (by simp [hd])) r2
              refine ⟨d' :: ds', .cons a1 b1, by simp [b2], fun i x y => ?_⟩
              cases i with
              | zero => intro h1 h2; simp at h1 h2; subst h1 h2; exact a2
              | succ i => intro h1 h2; exact b3 i x y (by simpa using h1) (by simpa using h2)
        obtain ⟨ds', a1, a2, a3⟩ := all ih rr
        exact ⟨.list ds', .lst (hb _ _ e q) a1, .lst a2 a3⟩
/-- a frame whose slots hold plain things, and the dice at p in slot 0 -/
structure Fr (p : Addr) (ρ : Env) : Prop where
  dice : ∃ a b c : Int, ρ[0]? = some (some (.ow (.par p (.lst [.int a, .int b, .int c]))))
  rest : ∀ (i : Nat) (sv : SV), ρ[i]? = some (some sv) → i ≠ 0 → ∃ d, sv = .im d ∧ PL d
structure Qs (K : PySem.W.Frag) (T B : Addr → Prop) (p : Addr) (ρ : Env) (σ : L2.St) (H : Hp) : Prop where
  rs : RS K T ρ σ H
  fr : Fr p ρ
  lists : ∀ a xs, ¬ T a → a ≠ p → H a = some (.lst xs) → B a
  new : ∀ a, H a = none → B a
theorem Qs.at0 (q : Qs K T B p ρ σ H) : σ[0]? = some (some (.ref p)) := by
  obtain ⟨a, b, c, h⟩ := q.fr.dice
  obtain ⟨x, o, h1, _⟩ := q.rs.ow 0 _ h
  rw [h1, q.rs.tag 0 p _ x h h1]
theorem Qs.own (q : Qs K T B p ρ σ H) {a : Addr} : Own ρ σ a ↔ a = p := by
  constructor
  · rintro ⟨i, m, h1, h2⟩
    by_cases e : i = 0
    · subst e; rw [q.at0] at h2; cases h2; rfl
    · obtain ⟨d, z, _⟩ := q.fr.rest i _ h1 e
      cases z
  · rintro rfl
    obtain ⟨a, b, c, h⟩ := q.fr.dice
    exact ⟨0, _, h, q.at0⟩
theorem Qs.hd (q : Qs K T B p ρ σ H) {a : Addr} : Hd T ρ σ a ↔ T a ∨ a = p := by unfold Hd; rw [q.own]
/-- steps of the ordinary kind -/
theorem Qs.step (q : Qs K T B p ρ σ H) (r : RS K T ρ1 σ1 H1) (po : Po ρ σ H ρ1 σ1 H1) (f : Fr p ρ1) : Qs K T B p ρ1 σ1 H1 := by
  refine ⟨r, f, fun a xs t n h => ?_, fun a h => ?_⟩
  · cases w : H a with
    | none => exact q.new a w
    | some o =>
      have := po.keep a o (fun z => n (q.own.1 z)) w
      rw [h] at this; cases this
      exact q.lists a xs t n w
  · cases w : H a with
    | none => exact q.new a w
    | some o => exact absurd h (po.dom a (by rw [w]; simp))
structure Kp (B : Addr → Prop) (p : Addr) (H H' : Hp) : Prop where
  keep : ∀ a o, a ≠ p → ¬ B a → H a = some o → H' a = some o
  dom : ∀ a, H a ≠ none → H' a ≠ none
theorem Kp.refl {B : Addr → Prop} {p : Addr} : Kp B p H H := ⟨fun _ _ _ _ h => h, fun _ h => h⟩
theorem Kp.trans {B : Addr → Prop} {p : Addr} {H2 : Hp} (a : Kp B p H H1) (b : Kp B p H1 H2) : Kp B p H H2 := ⟨fun x o n m h => b.keep x o n m (a.keep x o n m h), fun x h => b.dom x (a.dom x h)⟩
theorem Qs.kp (q : Qs K T B p ρ σ H) (po : Po ρ σ H ρ1 σ1 H1) : Kp B p H H1 := ⟨fun a o n _ h => po.keep a o (fun z => n (q.own.1 z)) h, po.dom⟩
structure EndB (K : PySem.W.Frag) (T B : Addr → Prop) (p : Addr) (H : Hp) (E : DEnds) (D : Ends) : Prop where
  nx : ∀ ρ' σ' H', Qs K T B p ρ' σ' H' → Kp B p H H' → E.nx ρ' → D.nx σ' H'
  rt : ∀ d ρ' σ' v H', Qs K T B p ρ' σ' H' → Kp B p H H' → Rp K (hide (Hd T ρ' σ') H') v d → E.rt d ρ' → D.rt v H'
theorem EndB.step {E : DEnds} {D : Ends} (e : EndB K T B p H E D) (k : Kp B p H H1) : EndB K T B p H1 E D := ⟨fun a b c q k2 => e.nx a b c q (k.trans k2), fun a b c d f q k2 => e.rt a b c d f q (k.trans k2)⟩
theorem list_choose {α β : Type} : ∀ (l : List α) (R : Nat → α → β → Prop), (∀ i x, l[i]? = some x → ∃ y, R i x y) → ∃ l' : List β, l'.length = l.length ∧ ∀ i x, l[i]? = some x → ∃ y, l'[i]? = some y ∧ R i x y
  | [], _, _ => ⟨[], rfl, by simp⟩
  | a :: l, R, h => by
    obtain ⟨y, hy⟩ := h 0 a rfl
    obtain ⟨l', h1, h2⟩ := list_choose l (fun i => R (i + 1)) fun i x e => h (i + 1) x (by simpa using e)
    refine ⟨y :: l', by simp [h1], fun i x e => ?_⟩
    cases i with
    | zero => simp at e; subst e; exact ⟨y, rfl, hy⟩
    | succ i => obtain ⟨z, z1, z2⟩ := h2 i x (by simpa using e); exact ⟨z, by simpa using z1, z2⟩
structure ChE (R : D → D → Prop) (ρ ρ3 : Env) : Prop where
  len : ρ3.length = ρ.length
  at0 : ρ3[0]? = ρ[0]?
  im : ∀ (i : Nat) (d : D), ρ[i]? = some (some (.im d)) → ∃ d', ρ3[i]? = some (some (.im d')) ∧ R d d'
  no : ∀ (i : Nat), ρ[i]? = some none → ρ3[i]? = some none
theorem Ch.pl {es : List D} (ne : ∀ d, d ∈ es → NL d) {d d' : D} (p : PL d) (c : Ch es d d') : PL d' := by
  induction p generalizing d' with
  | nl n => cases c with
    | nl _ => exact .nl n
    | repl _ _ => cases n
    | lst _ _ => cases n
  | @lst ds _ ih => cases c with
    | nl n => cases n
    | repl _ _ => exact .lst fun d hd => .nl (ne d hd)
    | @lst _ ds' l h =>
      refine .lst fun d hd => ?_
      obtain ⟨i, hi⟩ := List.mem_iff_getElem?.mp hd
      have il : i < ds.length := by rw [← l]; exact (List.getElem?_eq_some_iff.mp hi).1
      exact ih ds[i] (List.getElem_mem il) (h i _ _ (List.getElem?_eq_getElem il) hi)
theorem Qs.store (q : Qs K T B p ρ σ H) {b : Addr} {xs us : List V} {R : D → D → Prop} (hl : H b = some (.lst xs)) (nt : ¬ T b) (np : b ≠ p)
    (hch : ∀ d : D, PL d → ∀ v : V, Rp K (hide (Hd T ρ σ) H) v d → ∃ d', Rp K (hide (Hd T ρ σ) (upd H b (.lst us))) v d' ∧ R d d' ∧ PL d') :
    ∃ ρ3, Qs K T B p ρ3 σ (upd H b (.lst us)) ∧ Kp B p H (upd H b (.lst us)) ∧ ChE R ρ ρ3 ∧ Hd T ρ3 σ = Hd T ρ σ := by
  have nb : ¬ Hd T ρ σ b := fun w => (q.hd.1 w).elim nt np
  have hb : ∀ a o, a ≠ b → hide (Hd T ρ σ) H a = some o → hide (Hd T ρ σ) (upd H b (.lst us)) a = some o := fun a o n w => by
    obtain ⟨w1, w2⟩ := hide_some.1 w
    exact hide_some.2 ⟨w1, by rw [upd_ne n]; exact w2⟩
  have g1 : hide (Hd T ρ σ) H b = some (.lst xs) := hide_some.2 ⟨nb, hl⟩
  have g2 : hide (Hd T ρ σ) (upd H b (.lst us)) b = some (.lst us) := hide_some.2 ⟨nb, upd_same⟩
  obtain ⟨ρ3, l3, h3⟩ := list_choose ρ (fun i x y => (i = 0 → y = x) ∧ (i ≠ 0 → (∀ d, x = some (.im d) → ∃ d' v, y = some (.im d') ∧ (R d d' ∧ PL d') ∧ σ[i]? = some (some v) ∧ Rp K (hide (Hd T ρ σ) (upd H b (.lst us))) v d') ∧ (x = none → y = none))) (fun i x e => by
    by_cases z : i = 0
    · exact ⟨x, fun _ => rfl, fun n => absurd z n⟩
    · cases x with
      | none => exact ⟨none, fun w => absurd w z, fun _ => ⟨fun d w => (by cases w), fun _ => rfl⟩⟩
      | some sv =>
        obtain ⟨d, rfl, pd⟩ := q.fr.rest i sv e z
        obtain ⟨v, hv, rv⟩ := q.rs.im i d e
        obtain ⟨d', r', c⟩ := hch d pd v rv
        exact ⟨some (.im d'), fun w => absurd w z, fun _ => ⟨fun d2 w => (by cases w; exact ⟨d', v, rfl, c, hv, r'⟩), fun w => (by cases w)⟩⟩)
  have e0 : ρ3[0]? = ρ[0]? := by
    obtain ⟨x, y, z, w⟩ := q.fr.dice
    obtain ⟨u, u1, u2, _⟩ := h3 0 _ w
    rw [u1, w, u2 rfl]
  have back : ∀ (i : Nat) (sv : SV), ρ3[i]? = some (some sv) → i ≠ 0 → ∃ d d' v, ρ[i]? = some (some (.im d)) ∧ sv = .im d' ∧ (R d d' ∧ PL d') ∧ σ[i]? = some (some v) ∧ Rp K (hide (Hd T ρ σ) (upd H b (.lst us))) v d' := fun i sv w z => by
    have il : i < ρ.length := by rw [← l3]; exact (List.getElem?_eq_some_iff.mp w).1
    obtain ⟨y, y1, _, y2⟩ := h3 i _ (List.getElem?_eq_getElem il)
    rw [w] at y1; cases y1
    obtain ⟨k1, k2⟩ := y2 z
    cases ex : ρ[i] with
    | none => have := k2 ex; cases this
    | some sv2 =>
      obtain ⟨d, rfl, _⟩ := q.fr.rest i sv2 (by rw [List.getElem?_eq_getElem il, ex]) z
      obtain ⟨d', v, e1, e2, e3, e4⟩ := k1 d ex
      cases e1
      exact ⟨d, d', v, by rw [List.getElem?_eq_getElem il, ex], rfl, e2, e3, e4⟩
  have fr3 : Fr p ρ3 := ⟨by rw [e0]; exact q.fr.dice, fun i sv w z => by
    obtain ⟨d, d', v, a1, rfl, a3, _⟩ := back i sv w z
    exact ⟨d', rfl, a3.2⟩⟩
  have own3 : ∀ a, Own ρ3 σ a ↔ a = p := fun a => by
    constructor
    · rintro ⟨i, m, h1, h2⟩
      by_cases e : i = 0
      · subst e; rw [q.at0] at h2; cases h2; rfl
      · obtain ⟨d, z, _⟩ := fr3.rest i _ h1 e
        cases z
    · rintro rfl
      obtain ⟨x, y, z, w⟩ := fr3.dice
      exact ⟨0, _, w, q.at0⟩
  have hdE : Hd T ρ3 σ = Hd T ρ σ := by
    funext a
    apply propext
    unfold Hd
    rw [own3, q.own]
  have rs3 : RS K T ρ3 σ (upd H b (.lst us)) := by
    refine ⟨by rw [l3, q.rs.len], fun i d w => ?_, fun i m w => ?_, fun i j m m' a w1 w2 w3 w4 => ?_, fun a t w => ?_, fun a t => ?_, fun i x m a w1 w2 => ?_⟩
    · by_cases z : i = 0
      · subst z; rw [e0] at w
        obtain ⟨x, y, z, w'⟩ := q.fr.dice
        rw [w] at w'; cases w'
      · obtain ⟨d1, d', v, a1, a2, a3, a4, a5⟩ := back i _ w z
        cases a2
        exact ⟨v, a4, by rw [hdE]; exact a5⟩
    · by_cases z : i = 0
      · subst z
        obtain ⟨x, y, z, w'⟩ := fr3.dice
        rw [w] at w'; cases w'
        rw [e0] at w
        obtain ⟨a, o, b1, b2, b3⟩ := q.rs.ow 0 _ w
        have ap : a = p := by have := b1.symm.trans q.at0; cases this; rfl
        subst ap
        refine ⟨a, o, b1, by rw [upd_ne np.symm]; exact b2, ?_⟩
        rw [hdE]
        cases o with
        | lst vs => exact nls_keep hb g1 (fun d hd => by simp at hd; rcases hd with rfl | rfl | rfl <;> exact .int _) b3
        | _ => exact False.elim b3
      · obtain ⟨d, z, _⟩ := fr3.rest i _ w z
        cases z
    · have : ∀ (i : Nat) (m : MO), ρ3[i]? = some (some (.ow m)) → i = 0 := fun i m w => by
        by_cases z : i = 0
        · exact z
        · obtain ⟨d, z, _⟩ := fr3.rest i _ w z
          cases z
      rw [this i m w1, this j m' w2]
    · rw [own3] at w
      exact q.rs.dis a t (q.own.2 w)
    · by_cases e : a = b
      · subst e; exact absurd t nt
      · exact (q.rs.dom a t).upd e
    · by_cases z : i = 0
      · subst z; rw [e0] at w1; exact q.rs.tag 0 x m a w1 w2
      · obtain ⟨d, z, _⟩ := fr3.rest i _ w1 z
        cases z
  refine ⟨ρ3, ⟨rs3, fr3, fun a ys t n w => ?_, fun a w => ?_⟩, ⟨fun a o n m w => ?_, fun a w => ?_⟩, ⟨l3, e0, fun i d w => ?_, fun i w => ?_⟩, hdE⟩
  · by_cases e : a = b
    · subst e; exact q.lists a _ t n hl
    · rw [upd_ne e] at w; exact q.lists a _ t n w
  · by_cases e : a = b
    · subst e; rw [upd_same] at w; cases w
    · rw [upd_ne e] at w; exact q.new a w
  · by_cases e : a = b
    · subst e; exact absurd (q.lists a _ nt np hl) m
    · rw [upd_ne e]; exact w
  · by_cases e : a = b
    · subst e; rw [upd_same]; simp
    · rw [upd_ne e]; exact w
  · by_cases z : i = 0
    · subst z
      obtain ⟨x, y, z, w'⟩ := q.fr.dice
      rw [w] at w'; cases w'
    · obtain ⟨y, y1, _, y2⟩ := h3 i _ w
      obtain ⟨d', v, e1, e2, _⟩ := (y2 z).1 d rfl
      exact ⟨d', by rw [y1, e1], e2.1⟩
  · by_cases z : i = 0
    · subst z
      obtain ⟨x, y, z, w'⟩ := q.fr.dice
      rw [w] at w'; cases w'
    · obtain ⟨y, y1, _, y2⟩ := h3 i _ w
      rw [y1, (y2 z).2 rfl]
theorem hide_upd {O : Addr → Prop} {b : Addr} {o : HO} (hb : ∀ a u, a ≠ b → hide O H a = some u → hide O (upd H b o) a = some u := fun a u n w => hide_some.2 ⟨(hide_some.1 w).1, by rw [upd_ne n]; exact (hide_some.1 w).2⟩) : ∀ a u, a ≠ b → hide O H a = some u → hide O (upd H b o) a = some u := hb
/-- an item of an inner list is stored -/
theorem Qs.store1 (q : Qs K T B p ρ σ H) {i m : Nat} {v : V} {d : D} {ds : List D} (hi : ρ[i]? = some (some (.im (.list ds)))) (n0 : ∀ x, x ∈ ds → NL x) (nd : NL d) (rv : Rp K (hide (Hd T ρ σ) H) v d) :
    ∃ b xs ρ3, σ[i]? = some (some (.ref b)) ∧ H b = some (.lst xs) ∧ xs.length = ds.length ∧ Qs K T B p ρ3 σ (upd H b (.lst (xs.set m v))) ∧ Kp B p H (upd H b (.lst (xs.set m v))) ∧ ChE (Ch (ds.set m d)) ρ ρ3 ∧
      ∀ u e, NL e → Rp K (hide (Hd T ρ σ) H) u e → Rp K (hide (Hd T ρ3 σ) (upd H b (.lst (xs.set m v)))) u e := by
  obtain ⟨w, h1, h2⟩ := q.rs.im i _ hi
  cases h2 with
  | @lst b xs _ g1 rr =>
    obtain ⟨nb, hl⟩ := hide_some.1 g1
    have nt : ¬ T b := fun z => nb (q.hd.2 (.inl z))
    have np : b ≠ p := fun z => nb (q.hd.2 (.inr z))
    have g2 : hide (Hd T ρ σ) (upd H b (.lst (xs.set m v))) b = some (.lst (xs.set m v)) := hide_some.2 ⟨nb, upd_same⟩
    have ne : ∀ x, x ∈ ds.set m d → NL x := fun x hx => (List.mem_or_eq_of_mem_set hx).elim (n0 x) fun z => by rw [z]; exact nd
    obtain ⟨ρ3, a1, a2, a3, a4⟩ := q.store (us := xs.set m v) (R := Ch (ds.set m d)) hl nt np fun _ pd _ r => by
      obtain ⟨d', r', c⟩ := pl_change (hide_upd) g1 g2 rr n0 (rr.set m rv) ne (by simp) pd r
      exact ⟨d', r', c, c.pl ne pd⟩
    exact ⟨b, xs, ρ3, h1, hl, rr.length, a1, a2, a3, fun u e n r => by rw [a4]; exact nl_keep hide_upd g1 n r⟩
/-! the same of a list of lists -/
def L1 (d : D) : Prop := ∃ es, d = .list es ∧ ∀ e, e ∈ es → NL e
inductive Ch2 (es : List D) : D → D → Prop
  | nl {d : D} : NL d → Ch2 es d d
  | l1 {d : D} : L1 d → Ch2 es d d
  | repl {ds : List D} : es.length = ds.length → (∃ d, d ∈ ds ∧ ¬ notL d) → Ch2 es (.list ds) (.list es)
  | lst {ds ds' : List D} : (∃ d, d ∈ ds ∧ ¬ notL d) → ds'.length = ds.length → (∀ (i : Nat) (d d' : D), ds[i]? = some d → ds'[i]? = some d' → Ch2 es d d') → Ch2 es (.list ds) (.list ds')
theorem list_same {v : V} {d e : D} (h : Rp K G v d) (n : ¬ notL d) (h2 : Rp K G v e) (pe : PL e) : ¬ notL e := by
  cases h with
  | lst q _ =>
    cases h2 with
    | lst _ _ => exact id
    | tup p _ => rw [q] at p; cases p
    | dct _ _ z => subst z; cases pe with | nl n => cases n
    | frz _ _ => cases pe with | nl n => cases n
  | _ => exact absurd trivial n
theorem pl_nl {d : D} (p : PL d) (n : notL d) : NL d := by
  cases p with
  | nl h => exact h
  | lst _ => exact False.elim n
theorem list_mem : ∀ {vs : List V} {ds es : List D}, RpAll K G vs ds → (∃ d, d ∈ ds ∧ ¬ notL d) → RpAll K G vs es → (∀ e, e ∈ es → PL e) → ∃ e, e ∈ es ∧ ¬ notL e
  | _, _, _, .nil, h, .nil, _ => by simp at h
  | _, _, _, .cons h r, w, .cons h2 r2, p => by
    obtain ⟨d, hd, n⟩ := w
    rcases List.mem_cons.mp hd with rfl | hd
    · exact ⟨_, by simp, list_same h n h2 (p _ (by simp))⟩
    · obtain ⟨e, he, n'⟩ := list_mem r ⟨d, hd, n⟩ r2 fun e he => p e (by simp [he])
      exact ⟨e, by simp [he], n'⟩
/-- an inner list keeps its place -/
theorem l1_keep {b : Addr} {xs : List V} {ds0 : List D} (hb : ∀ a o, a ≠ b → G a = some o → G' a = some o) (hl : G b = some (.lst xs)) (h0 : RpAll K G xs ds0) (m0 : ∃ d, d ∈ ds0 ∧ ¬ notL d) {v : V} {d : D} (l : L1 d) (r : Rp K G v d) : Rp K G' v d := by
  obtain ⟨es, rfl, ne⟩ := l
  cases r with
  | @lst a ys _ q rr =>
    have ab : a ≠ b := fun z => by
      subst z
      rw [hl] at q; cases q
      obtain ⟨e, he, n⟩ := list_mem h0 m0 rr fun e he => .nl (ne e he)
      exact n (ne e he).notL
    exact .lst (hb _ _ ab q) (nls_keep hb hl ne rr)
theorem l1s_keep {b : Addr} {xs : List V} {ds0 : List D} (hb : ∀ a o, a ≠ b → G a = some o → G' a = some o) (hl : G b = some (.lst xs)) (h0 : RpAll K G xs ds0) (m0 : ∃ d, d ∈ ds0 ∧ ¬ notL d) : ∀ {vs : List V} {es : List D}, (∀ e, e ∈ es → L1 e) → RpAll K G vs es → RpAll K G' vs es
  | _, _, _, .nil => .nil
  | _, _, n, .cons h r => .cons (l1_keep hb hl h0 m0 (n _ (by simp)) h) (l1s_keep hb hl h0 m0 (fun e he => n e (by simp [he])) r)
theorem pl_change2 {b : Addr} {xs us : List V} {ds0 es : List D} (hb : ∀ a o, a ≠ b → G a = some o → G' a = some o) (hl : G b = some (.lst xs)) (hl' : G' b = some (.lst us)) (h0 : RpAll K G xs ds0) (m0 : ∃ d, d ∈ ds0 ∧ ¬ notL d) (hu : RpAll K G us es) (ne : ∀ d, d ∈ es → L1 d) (le : us.length = xs.length) :
    ∀ {d : D}, PL d → ∀ {v : V}, Rp K G v d → ∃ d', Rp K G' v d' ∧ Ch2 es d d' ∧ PL d' := by
  intro d p
  induction p with
  | nl n => exact fun r => ⟨_, nl_keep hb hl n r, .nl n, .nl n⟩
  | @lst ds hp ih =>
    intro v r
    cases r with
    | @lst a ys _ q rr =>
      have pes : ∀ d, d ∈ es → PL d := fun d hd => by
        obtain ⟨l, rfl, hl⟩ := ne d hd
        exact .lst fun e he => .nl (hl e he)
      by_cases e : a = b
      · subst e
        rw [hl] at q; cases q
        exact ⟨.list es, .lst hl' (l1s_keep hb hl h0 m0 ne hu), .repl (by rw [← hu.length, le, rr.length]) (list_mem h0 m0 rr hp), .lst pes⟩
      · by_cases hm : ∃ d, d ∈ ds ∧ ¬ notL d
        · have all : ∀ {ys : List V} {ds : List D}, (∀ d, d ∈ ds → ∀ {v : V}, Rp K G v d → ∃ d', Rp K G' v d' ∧ Ch2 es d d' ∧ PL d') → RpAll K G ys ds → ∃ ds', RpAll K G' ys ds' ∧ ds'.length = ds.length ∧ (∀ (i : Nat) (d d' : D), ds[i]? = some d → ds'[i]? = some d' → Ch2 es d d') ∧ ∀ d, d ∈ ds' → PL d := by
            intro ys ds f r
            induction ds generalizing ys with
            | nil => cases r; exact ⟨[], .nil, rfl, by simp, by simp⟩
            | cons d ds ih2 =>
              cases r with
              | cons r1 r2 =>
                obtain ⟨d', a1, a2, a3⟩ := f d (by simp) r1
                obtain ⟨ds', b1, b2, b3, b4⟩ := ih2 (fun d hd => f d (by simp [hd])) r2
                refine ⟨d' :: ds', .cons a1 b1, by simp [b2], fun i x y => ?_, fun x hx => ?_⟩
                · cases i with
                  | zero => intro h1 h2; simp at h1 h2; subst h1 h2; exact a2
                  | succ i => intro h1 h2; exact b3 i x y (by simpa using h1) (by simpa using h2)
                · rcases List.mem_cons.mp hx with rfl | hx
                  · exact a3
                  · exact b4 x hx
          obtain ⟨ds', a1, a2, a3, a4⟩ := all ih rr
          exact ⟨.list ds', .lst (hb _ _ e q) a1, .lst hm a2 a3, .lst a4⟩
        · have nds : ∀ d, d ∈ ds → NL d := fun d hd => pl_nl (hp d hd) (Classical.byContradiction fun n => hm ⟨d, hd, n⟩)
          exact ⟨.list ds, .lst (hb _ _ e q) (nls_keep hb hl nds rr), .l1 ⟨ds, rfl, nds⟩, .lst hp⟩
theorem Qs.store2 (q : Qs K T B p ρ σ H) {i m : Nat} {v : V} {d : D} {ds : List D} (hi : ρ[i]? = some (some (.im (.list ds)))) (h0 : ∀ x, x ∈ ds → L1 x) (m0 : ds ≠ []) (nd : L1 d) (rv : Rp K (hide (Hd T ρ σ) H) v d) :
    ∃ b xs ρ3, σ[i]? = some (some (.ref b)) ∧ H b = some (.lst xs) ∧ xs.length = ds.length ∧ Qs K T B p ρ3 σ (upd H b (.lst (xs.set m v))) ∧ Kp B p H (upd H b (.lst (xs.set m v))) ∧ ChE (Ch2 (ds.set m d)) ρ ρ3 ∧
      ∀ u e, L1 e → Rp K (hide (Hd T ρ σ) H) u e → Rp K (hide (Hd T ρ3 σ) (upd H b (.lst (xs.set m v)))) u e := by
  obtain ⟨w, h1, h2⟩ := q.rs.im i _ hi
  cases h2 with
  | @lst b xs _ g1 rr =>
    obtain ⟨nb, hl⟩ := hide_some.1 g1
    have nt : ¬ T b := fun z => nb (q.hd.2 (.inl z))
    have np : b ≠ p := fun z => nb (q.hd.2 (.inr z))
    have g2 : hide (Hd T ρ σ) (upd H b (.lst (xs.set m v))) b = some (.lst (xs.set m v)) := hide_some.2 ⟨nb, upd_same⟩
    have ne : ∀ x, x ∈ ds.set m d → L1 x := fun x hx => (List.mem_or_eq_of_mem_set hx).elim (h0 x) fun z => by rw [z]; exact nd
    have mm : ∃ d, d ∈ ds ∧ ¬ notL d := by
      cases ds with
      | nil => exact absurd rfl m0
      | cons x l => obtain ⟨es, rfl, _⟩ := h0 x (by simp); exact ⟨.list es, by simp, id⟩
    obtain ⟨ρ3, a1, a2, a3, a4⟩ := q.store (us := xs.set m v) (R := Ch2 (ds.set m d)) hl nt np fun _ pd _ r => pl_change2 hide_upd g1 g2 rr mm (rr.set m rv) ne (by simp) pd r
    exact ⟨b, xs, ρ3, h1, hl, rr.length, a1, a2, a3, fun u e n r => by rw [a4]; exact l1_keep hide_upd g1 rr mm n r⟩
end
structure JB1 (X : Cx) (st : Stmt) (f : DS) : Prop where
  ex : ∃ t, PS X st t ∧ ∀ (T B : Addr → Prop) (p : Addr) (ρ : Env) (σ : L2.St) (H : Hp) (E : DEnds) (D : Ends), Qs X.K T B p ρ σ H → f E ρ → EndB X.K T B p H E D → t D σ H
structure JB (X : Cx) (st : List Stmt) (f : DS) : Prop where
  ex : ∃ t, PSs X st t ∧ ∀ (T B : Addr → Prop) (p : Addr) (ρ : Env) (σ : L2.St) (H : Hp) (E : DEnds) (D : Ends), Qs X.K T B p ρ σ H → f E ρ → EndB X.K T B p H E D → t D σ H
/-- a step of the ordinary kind: the frame stays plain -/
def sB (f : DS) : DS := fun E ρ => ∀ p, Fr p ρ → f { nx := fun ρ' => Fr p ρ' ∧ E.nx ρ', rt := fun d ρ' => Fr p ρ' ∧ E.rt d ρ' } ρ
def sIfB (c : DT) (f g : DS) : DS := fun E ρ => ∀ p, Fr p ρ → c ρ fun b ρ1 => Fr p ρ1 ∧ if b = true then f E ρ1 else g E ρ1
def gSubB (i : Nat) (fk : DE) : DG := fun d ρ QD => ∀ p, Fr p ρ → NL d ∧ (∃ d0, ρ[i]? = some (some (.im d0))) ∧ fk ρ fun kk ρ2 => Fr p ρ2 ∧ ∃ ds j m, ρ2[i]? = some (some (.im (.list ds))) ∧ kk = .int j ∧ ixN ds.length j = some m ∧ (∀ x, x ∈ ds → NL x) ∧ ∀ ρ3, ChE (Ch (ds.set m d)) ρ2 ρ3 → QD ρ3
def gSubB2 (i : Nat) (fk : DE) : DG := fun d ρ QD => ∀ p, Fr p ρ → L1 d ∧ (∃ d0, ρ[i]? = some (some (.im d0))) ∧ fk ρ fun kk ρ2 => Fr p ρ2 ∧ ∃ ds j m, ρ2[i]? = some (some (.im (.list ds))) ∧ kk = .int j ∧ ixN ds.length j = some m ∧ (∀ x, x ∈ ds → L1 x) ∧ ds ≠ [] ∧ ∀ ρ3, ChE (Ch2 (ds.set m d)) ρ2 ρ3 → QD ρ3
def sAsgB (f : DE) (g : DG) : DS := fun E ρ => ∀ p, Fr p ρ → f ρ fun d ρ1 => Fr p ρ1 ∧ g d ρ1 E.nx
section
variable {X : Cx} {V : D → Prop} {a b c e : Expr} {es : List Expr} {fa fb fc : DE} {pos ps px : Pos} {x y : Str} {st : Stmt} {sts : List Stmt} {f g : DS}
theorem jb_js (h : JS X st f) : JB1 X st (sB f) := by
  obtain ⟨t, pt, k⟩ := h.ex
  refine ⟨t, pt, fun T B p ρ σ H E D q h e => k T ρ σ H _ _ q.rs (h p q.fr) ⟨fun ρ' σ' H' r po h => ?_, fun d ρ' σ' v H' r po rv h => ?_, fun _ _ _ _ _ h => h.elim, fun _ _ _ _ _ h => h.elim⟩⟩
  · exact e.nx _ _ _ (q.step r po h.1) (q.kp po) h.2
  · exact e.rt _ _ _ _ _ (q.step r po h.1) (q.kp po) rv h.2
theorem jb_nil : JB X [] sNx := ⟨tNext, pss_nil, fun T B p ρ σ H E D q h e => e.nx _ _ _ q .refl h⟩
theorem jb_cons (h1 : JB1 X st f) (h2 : JB X sts g) : JB X (st :: sts) (sSeq f g) := by
  obtain ⟨t1, p1, k1⟩ := h1.ex
  obtain ⟨t2, p2, k2⟩ := h2.ex
  exact ⟨_, pss_cons p1 p2, fun T B p ρ σ H E D q h e => k1 T B p ρ σ H _ _ q h ⟨fun ρ' σ' H' q' k h => k2 T B p ρ' σ' H' _ _ q' h (e.step k), e.rt⟩⟩
theorem jb_one (h1 : JB1 X st f) : JB X [st] f := by
  obtain ⟨t1, p1, k1⟩ := h1.ex
  exact ⟨_, pss_cons p1 pss_nil, fun T B p ρ σ H E D q h e => k1 T B p ρ σ H E _ q h ⟨fun ρ' σ' H' q' k h => e.nx _ _ _ q' k h, e.rt⟩⟩
theorem jb_if {cc : DT} {sa sb : List Stmt} (hc : JT X c cc) (h1 : JB X sa f) (h2 : JB X sb g) : JB1 X (.If c sa sb pos) (sIfB cc f g) := by
  obtain ⟨tc, pc, kc⟩ := hc.ex
  obtain ⟨t1, p1, k1⟩ := h1.ex
  obtain ⟨t2, p2, k2⟩ := h2.ex
  refine ⟨_, ps_if pc p1 p2, fun T B p ρ σ H E D q h e => kc T ρ σ H _ _ q.rs (h p q.fr) fun b ρ1 H1 r1 po h => ?_⟩
  have q1 := q.step r1 po h.1
  cases b with
  | true => exact k1 T B p ρ1 σ H1 E D q1 h.2 (e.step (q.kp po))
  | false => exact k2 T B p ρ1 σ H1 E D q1 h.2 (e.step (q.kp po))
structure JGB (X : Cx) (V : D → Prop) (tg : Expr) (g : DG) : Prop where
  ex : ∃ t, PG X tg t ∧ ∀ (T B : Addr → Prop) (p : Addr) (ρ : Env) (σ : L2.St) (H : Hp) (v : L2.V) (d : D) (QD : Env → Prop) (Q : L2.St → Hp → Prop), Qs X.K T B p ρ σ H → Rp X.K (hide (Hd T ρ σ) H) v d → g d ρ QD →
    (∀ ρ' H', Qs X.K T B p ρ' σ H' → Kp B p H H' → (∀ u e, V e → Rp X.K (hide (Hd T ρ σ) H) u e → Rp X.K (hide (Hd T ρ' σ) H') u e) → QD ρ' → Q σ H') → t v σ H Q
structure JGBs (X : Cx) (V : D → Prop) (tgs : List Expr) (g : List D → Env → (Env → Prop) → Prop) : Prop where
  ex : ∃ t, PGs X tgs t ∧ ∀ (T B : Addr → Prop) (p : Addr) (ρ : Env) (σ : L2.St) (H : Hp) (us : List L2.V) (ds : List D) (QD : Env → Prop) (Q : L2.St → Hp → Prop), Qs X.K T B p ρ σ H → RpAll X.K (hide (Hd T ρ σ) H) us ds → (∀ d, d ∈ ds → V d) → g ds ρ QD →
    (∀ ρ' H', Qs X.K T B p ρ' σ H' → Kp B p H H' → QD ρ' → Q σ H') → t us σ H Q
theorem jgb_sub {i : Nat} {f1 : DE} (hN : X.N[i]? = some x) (hv : Vis X.env.scope x) (hi : JE X b f1) (hd : (x == ("__debug__" : Str)) = false := by decide) (hcd : (x == ("__classdict__" : Str)) = false := by decide)
    (ha : ∀ v, assign (.Subscript (.Name x px) b ps) X.env v = (do
      let ov ← holding [v] (eval (.Name x px) X.env); let iv ← holding [v, ov] (eval b X.env); standAt ps; holding [v, ov, iv] (setItem ov iv v); release [v, ov, iv] []) := by intro _; rfl) : JGB X NL (.Subscript (.Name x px) b ps) (gSubB i f1) := by
  obtain ⟨t1, p1, k1⟩ := hi.ex
  refine ⟨_, pg_sub (pe_var hN hv hd hcd) p1 set_list ha, fun T B p ρ σ H v d QD Q q rv h k => ?_⟩
  obtain ⟨nd, ⟨d0, h0⟩, h⟩ := h p q.fr
  obtain ⟨w, hw, _⟩ := q.rs.im i d0 h0
  refine ⟨_, hw, k1 T ρ σ H _ _ q.rs h fun kk ρ2 z H2 r2 po2 v2 h => ?_⟩
  obtain ⟨f2, ds, j, m, e1, rfl, e2, n0, h⟩ := h
  have q2 := q.step r2 po2 f2
  obtain ⟨l, xs, ρ3, a1, a2, a3, a4, a5, a6, a7⟩ := q2.store1 (m := m) e1 n0 nd (rv.mono po2.fz)
  have := hw.symm.trans a1
  cases this
  cases v2
  exact ⟨l, xs, j, m, rfl, rfl, a2, by rw [a3]; exact e2, k ρ3 _ a4 ((q.kp po2).trans a5) (fun u e ne ru => a7 u e ne (ru.mono po2.fz)) (h ρ3 a6)⟩
theorem jgb_sub2 {i : Nat} {f1 : DE} (hN : X.N[i]? = some x) (hv : Vis X.env.scope x) (hi : JE X b f1) (hd : (x == ("__debug__" : Str)) = false := by decide) (hcd : (x == ("__classdict__" : Str)) = false := by decide)
    (ha : ∀ v, assign (.Subscript (.Name x px) b ps) X.env v = (do
      let ov ← holding [v] (eval (.Name x px) X.env); let iv ← holding [v, ov] (eval b X.env); standAt ps; holding [v, ov, iv] (setItem ov iv v); release [v, ov, iv] []) := by intro _; rfl) : JGB X L1 (.Subscript (.Name x px) b ps) (gSubB2 i f1) := by
  obtain ⟨t1, p1, k1⟩ := hi.ex
  refine ⟨_, pg_sub (pe_var hN hv hd hcd) p1 set_list ha, fun T B p ρ σ H v d QD Q q rv h k => ?_⟩
  obtain ⟨nd, ⟨d0, h0⟩, h⟩ := h p q.fr
  obtain ⟨w, hw, _⟩ := q.rs.im i d0 h0
  refine ⟨_, hw, k1 T ρ σ H _ _ q.rs h fun kk ρ2 z H2 r2 po2 v2 h => ?_⟩
  obtain ⟨f2, ds, j, m, e1, rfl, e2, n0, m0, h⟩ := h
  have q2 := q.step r2 po2 f2
  obtain ⟨l, xs, ρ3, a1, a2, a3, a4, a5, a6, a7⟩ := q2.store2 (m := m) e1 n0 m0 nd (rv.mono po2.fz)
  have := hw.symm.trans a1
  cases this
  cases v2
  exact ⟨l, xs, j, m, rfl, rfl, a2, by rw [a3]; exact e2, k ρ3 _ a4 ((q.kp po2).trans a5) (fun u e ne ru => a7 u e ne (ru.mono po2.fz)) (h ρ3 a6)⟩
theorem jgbs_nil : JGBs X V [] gsNil := ⟨gNil, pgs_nil, fun T B p ρ σ H us ds QD Q q rv _ h k => by
  obtain ⟨rfl, h⟩ := h
  cases rv
  exact ⟨rfl, k _ _ q .refl h⟩⟩
theorem rpAll_of {V : D → Prop} {K : PySem.W.Frag} {G G' : Hp} (h : ∀ u e, V e → Rp K G u e → Rp K G' u e) : ∀ {us : List L2.V} {ds : List D}, (∀ d, d ∈ ds → V d) → RpAll K G us ds → RpAll K G' us ds
  | _, _, _, .nil => .nil
  | _, _, n, .cons a r => .cons (h _ _ (n _ (by simp)) a) (rpAll_of h (fun d hd => n d (by simp [hd])) r)
theorem jgbs_cons {g : DG} {gs : List D → Env → (Env → Prop) → Prop} (h1 : JGB X V e g) (h2 : JGBs X V es gs) (hs : (assignEach (e :: es) X.env).map (·.2) = assign e X.env :: (assignEach es X.env).map (·.2) := by rfl) : JGBs X V (e :: es) (gsCons g gs) := by
  obtain ⟨t1, p1, k1⟩ := h1.ex
  obtain ⟨t2, p2, k2⟩ := h2.ex
  refine ⟨_, pgs_cons p1 p2 hs, fun T B p ρ σ H us ds QD Q q rv n h k => ?_⟩
  cases rv with
  | nil => exact False.elim h
  | cons rv rr => exact ⟨_, _, rfl, k1 T B p ρ σ H _ _ _ _ q rv h fun ρ1 H1 q1 kp1 keep h => k2 T B p ρ1 σ H1 _ _ _ _ q1 (rpAll_of keep (fun d hd => n d (by simp [hd])) rr) (fun d hd => n d (by simp [hd])) h fun ρ2 H2 q2 kp2 h => k _ _ q2 (kp1.trans kp2) h⟩
def gTpB (V : D → Prop) (n : Nat) (gs : List D → Env → (Env → Prop) → Prop) : DG := fun d ρ QD => ∃ ds, d = .tuple ds ∧ ds.length = n ∧ (∀ d, d ∈ ds → V d) ∧ gs ds ρ QD
/-- a target alone: what else is kept does not matter -/
structure JGC (X : Cx) (tg : Expr) (g : DG) : Prop where
  ex : ∃ t, PG X tg t ∧ ∀ (T B : Addr → Prop) (p : Addr) (ρ : Env) (σ : L2.St) (H : Hp) (v : L2.V) (d : D) (QD : Env → Prop) (Q : L2.St → Hp → Prop), Qs X.K T B p ρ σ H → Rp X.K (hide (Hd T ρ σ) H) v d → g d ρ QD →
    (∀ ρ' H', Qs X.K T B p ρ' σ H' → Kp B p H H' → QD ρ' → Q σ H') → t v σ H Q
theorem jgc_of {g : DG} (h : JGB X V e g) : JGC X e g := by
  obtain ⟨t, pt, k⟩ := h.ex
  exact ⟨t, pt, fun T B p ρ σ H v d QD Q q rv h kk => k T B p ρ σ H v d QD Q q rv h fun ρ' H' q' kp _ h => kk ρ' H' q' kp h⟩
theorem jgc_tup {k n : Nat} {gs : List D → Env → (Env → Prop) → Prop} (hc : X.calm = true) (h : JGBs X V es gs) (hn : (assignEach es X.env).length = n := by rfl) (hst : (assignEach es X.env).findIdx? (·.1) = none := by rfl) : JGC X (.Tuple es k pos) (gTpB V n gs) := by
  obtain ⟨t, pt, kt⟩ := h.ex
  refine ⟨_, pg_tup hc pt hn hst, fun T B p ρ σ H v d QD Q q rv h kk => ?_⟩
  obtain ⟨ds, rfl, hl, hv, h⟩ := h
  cases rv with
  | tup hp rr => exact ⟨_, _, rfl, sqt_of hp, by rw [rr.length]; exact hl, kt T B p ρ σ H _ _ _ _ q rr hv h kk⟩
theorem jb_asg {tg : Expr} {g : DG} (ha : JE X e fa) (hg : JGC X tg g) (hs : swapsWithSole [tg] e pos.line X.env = pure false := by rfl) (hw : swappedStores [tg] e X.env = pure none := by rfl) (h1 : (assignEach [tg] X.env).map (·.2) = [assign tg X.env] := by rfl) : JB1 X (.Assign [tg] e pos) (sAsgB fa g) := by
  obtain ⟨t, pt, kt⟩ := ha.ex
  obtain ⟨t2, p2, k2⟩ := hg.ex
  refine ⟨_, ps_asg pt p2 hs hw h1, fun T B p ρ σ H E D q h e => kt T ρ σ H _ _ q.rs (h p q.fr) fun d ρ1 v H1 r1 po v1 h => ?_⟩
  have q1 := q.step r1 po h.1
  exact k2 T B p ρ1 σ H1 _ _ _ _ q1 v1 h.2 fun ρ2 H2 q2 kp h => e.nx _ _ _ q2 ((q.kp po).trans kp) h
/-- a def's whole body -/
theorem jss_of_jb (h : JB X sts f) (f' : DS) (hf : ∀ E ρ, f' E ρ → (∃ p, Fr p ρ) ∧ (∀ (i : Nat) (d : D), ρ[i]? = some (some (.im d)) → NL d) ∧ f E ρ) : JSs X sts f' := by
  obtain ⟨t, pt, k⟩ := h.ex
  refine ⟨t, pt, fun T ρ σ H E Dz r h e => ?_⟩
  obtain ⟨⟨p, fr⟩, nl, h⟩ := hf E ρ h
  have s0 : σ[0]? = some (some (.ref p)) := by
    obtain ⟨a, b, c, w⟩ := fr.dice
    obtain ⟨x, o, h1, _⟩ := r.ow 0 _ w
    rw [h1, r.tag 0 p _ x w h1]
  have own : ∀ a, Own ρ σ a ↔ a = p := fun a => by
    constructor
    · rintro ⟨i, m, h1, h2⟩
      by_cases e : i = 0
      · subst e; rw [s0] at h2; cases h2; rfl
      · obtain ⟨d, z, _⟩ := fr.rest i _ h1 e
        cases z
    · rintro rfl
      obtain ⟨a, b, c, w⟩ := fr.dice
      exact ⟨0, _, w, s0⟩
  have keep : ∀ {v : L2.V} {d : D}, NL d → Rp X.K (hide (Hd T ρ σ) H) v d → Rp X.K (hide (Hd (fun a => T a ∨ (a ≠ p ∧ ∃ xs, H a = some (.lst xs))) ρ σ) H) v d := by
    have key : ∀ {d : D}, NL d → ∀ {v : L2.V}, Rp X.K (hide (Hd T ρ σ) H) v d → Rp X.K (hide (Hd (fun a => T a ∨ (a ≠ p ∧ ∃ xs, H a = some (.lst xs))) ρ σ) H) v d := by
      intro d n
      induction n with
      | non => intro v r; cases r; exact .non
      | bl b => intro v r; cases r; exact .bl b
      | int b => intro v r; cases r; exact .int b
      | str b => intro v r; cases r; exact .str b
      | @tup ds hn ih =>
        intro v r
        cases r with
        | @tup a xs _ g rr =>
          obtain ⟨n1, n2⟩ := hide_some.1 g
          refine .tup (hide_some.2 ⟨?_, n2⟩) ?_
          · rintro ((w | ⟨_, ys, w⟩) | w)
            · exact n1 (.inl w)
            · rw [n2] at w; cases w
            · exact n1 (.inr w)
          · clear g n1 n2 hn
            induction ds generalizing xs with
            | nil => cases rr; exact .nil
            | cons d ds ih2 =>
              cases rr with
              | cons r1 r2 => exact .cons (ih d (by simp) r1) (ih2 (fun x hx => ih x (by simp [hx])) r2)
    exact fun {v d} n r => key n r
  have q : Qs X.K (fun a => T a ∨ (a ≠ p ∧ ∃ xs, H a = some (.lst xs))) (fun a => H a = none) p ρ σ H := by
    refine ⟨⟨r.len, fun i d w => ?_, fun i m w => ?_, r.inj, fun a t w => ?_, fun a t => ?_, r.tag⟩, fr, fun a xs t n w => ?_, fun a w => w⟩
    · obtain ⟨v, h1, h2⟩ := r.im i d w
      exact ⟨v, h1, keep (nl i d w) h2⟩
    · obtain ⟨a, o, h1, h2, h3⟩ := r.ow i m w
      refine ⟨a, o, h1, h2, ?_⟩
      by_cases z : i = 0
      · subst z
        obtain ⟨x, y, z, w'⟩ := fr.dice
        rw [w] at w'; cases w'
        cases o with
        | lst vs => exact rpAll_of (V := NL) (fun u e n r => keep n r) (fun d hd => by simp at hd; rcases hd with rfl | rfl | rfl <;> exact .int _) h3
        | _ => exact False.elim h3
      · obtain ⟨d, z, _⟩ := fr.rest i _ w z
        cases z
    · rcases t with t | ⟨t, _⟩
      · exact r.dis a t w
      · exact t ((own a).1 w)
    · rcases t with t | ⟨_, xs, w⟩
      · exact r.dom a t
      · unfold Lv; rw [w]; exact ⟨by simp, by simp⟩
    · exact absurd (.inr ⟨n, xs, w⟩) t
  have back : ∀ {ρ' : Env} {σ' : L2.St} {H' : Hp}, Qs X.K (fun a => T a ∨ (a ≠ p ∧ ∃ xs, H a = some (.lst xs))) (fun a => H a = none) p ρ' σ' H' → Kp (fun a => H a = none) p H H' → RS X.K T ρ' σ' H' ∧ Po ρ σ H ρ' σ' H' := fun {ρ' σ' H'} q' k => by
    refine ⟨q'.rs.sub fun a t => .inl t, fun a o n w => k.keep a o (fun z => n ((own a).2 z)) (fun z => by rw [z] at w; cases w) w, fun a w => .inl ((own a).2 (q'.own.1 w)), k.dom⟩
  exact k _ _ p ρ σ H E Dz q h ⟨fun ρ' σ' H' q' k h => e.nx _ _ _ (back q' k).1 (back q' k).2 h, fun d ρ' σ' v H' q' k rv h => e.rt _ _ _ _ _ (back q' k).1 (back q' k).2 (rv.mono (hide_sub fun a w => w.elim (fun t => .inl (.inl t)) .inr)) h⟩
end
end Dn
set_option Elab.async false
set_option linter.all false
set_option maxRecDepth 100000
set_option autoImplicit false
set_option maxHeartbeats 4000000
namespace Dn
open PySem L2 Evl
section
variable {X : Cx} {es : List Expr} {pos : Pos}
/-- a, b, .. = a list -/
def gTpL (n : Nat) (gs : List D → Env → (Env → Prop) → Prop) : DG := fun d ρ Q => match d with
  | .list ds => ds.length = n ∧ gs ds ρ Q
  | _ => False
theorem jg_lst {k n : Nat} {gs : List D → Env → (Env → Prop) → Prop} {vs : List Nat} (hc : X.calm = true) (h : JGs X es vs gs) (hn : (assignEach es X.env).length = n := by rfl) (hst : (assignEach es X.env).findIdx? (·.1) = none := by rfl) : JG X (.Tuple es k pos) vs (gTpL n gs) := by
  obtain ⟨t, pt, kt⟩ := h.ex
  refine ⟨_, pg_lst hc pt hn hst, fun T ρ σ H v d QD Q r rv h q => ?_⟩
  cases rv with
  | lst hp rr => exact ⟨_, _, rfl, .inl (.inl (at_of hp)), by rw [rr.length]; exact h.1, kt T ρ σ H _ _ _ _ r rr h.2 q⟩
  | _ => exact False.elim h
end
end Dn
set_option Elab.async false
set_option linter.all false
set_option maxRecDepth 100000
set_option autoImplicit false
set_option maxHeartbeats 4000000
/-! The same where the frame begins with a list of tuples in slot 1 that is read, and then no longer. -/
namespace Dn
open PySem L2 Evl
def isTupD : D → Prop
  | .tuple _ => True
  | _ => False
/-- every list in it begins with something else than a tuple -/
inductive NA : D → Prop
  | nl {d : D} : NL d → NA d
  | lst {e : D} {ds : List D} : ¬ isTupD e → NA e → (∀ d, d ∈ ds → NA d) → NA (.list (e :: ds))
section
variable {K : PySem.W.Frag} {G G' : Hp}
/-- the list at b, of tuples, is hidden -/
theorem na_keep {b : Addr} {x : V} {xs : List V} {rs : List D} (hb : ∀ a o, a ≠ b → G a = some o → G' a = some o) (hl : G b = some (.lst (x :: xs))) (hx : Rp K G x (.tuple rs)) : ∀ {d : D}, NA d → ∀ {v : V}, Rp K G v d → Rp K G' v d := by
  intro d n
  induction n with
  | nl n => exact fun r => nl_keep hb hl n r
  | @lst e ds ne nae _ ih1 ih2 =>
    intro v r
    cases r with
    | @lst a ys _ g rr =>
      cases rr with
      | @cons y ys _ _ r1 r2 =>
        have ab : a ≠ b := fun z => by
          subst z
          rw [hl] at g
          obtain ⟨rfl, rfl⟩ : x = y ∧ xs = ys := by simpa using g
          cases hx with
          | tup h _ =>
            cases e with
            | tuple _ => exact ne trivial
            | list _ => cases r1 with | lst h2 _ => rw [h] at h2; cases h2
            | dict _ => cases nae with | nl n => cases n
            | _ => cases r1
        have all : ∀ {ys : List V} {ds : List D}, (∀ d, d ∈ ds → ∀ {v : V}, Rp K G v d → Rp K G' v d) → RpAll K G ys ds → RpAll K G' ys ds := by
          intro ys ds f r
          induction ds generalizing ys with
          | nil => cases r; exact .nil
          | cons d ds ih3 => cases r with
            | cons q1 q2 => exact .cons (f d (by simp) q1) (ih3 (fun d hd => f d (by simp [hd])) q2)
        exact .lst (hb _ _ ab g) (.cons (ih1 r1) (all ih2 r2))
theorem NA.pl {d : D} (h : NA d) : PL d := by
  induction h with
  | nl n => exact .nl n
  | lst _ _ _ ih1 ih2 => exact PL.lst (fun d hd => (List.mem_cons.mp hd).elim (fun z => by rw [z]; exact ih1) (ih2 d))
end
def gB2 (f1 f2 f : DS) : DS := fun E ρ => ∃ (p : Addr) (ms : List D) (C : List (List Int)) (n : Nat), (∃ a b c : Int, ms = [.int a, .int b, .int c]) ∧ ρ = some (.ow (.par p (.lst ms))) :: some (.im (.list (C.map fun r => .tuple (r.map .int)))) :: List.replicate n none ∧
  f1 { nx := f2 { nx := fun ρ2 => ρ2[1]? = some (some (.im (.list (C.map fun r => .tuple (r.map .int))))) ∧ C ≠ [] ∧ (∀ (i : Nat) (d : D), i ≠ 1 → ρ2[i]? = some (some (.im d)) → NA d) ∧ Fr p (ρ2.set 1 none) ∧ f E (ρ2.set 1 none), rt := E.rt }, rt := E.rt } ρ
section
variable {X : Cx} {s1 s2 : Stmt} {sts : List Stmt} {f1 f2 f : DS}
theorem jss_of_jb2 (h1 : JS X s1 f1) (h2 : JS X s2 f2) (h : JB X sts f) (f' : DS) (hf : ∀ E ρ, f' E ρ → ∃ (p : Addr) (ms : List D) (C : List (List Int)) (n : Nat), (∃ a b c : Int, ms = [.int a, .int b, .int c]) ∧ ρ = some (.ow (.par p (.lst ms))) :: some (.im (.list (C.map fun r => .tuple (r.map .int)))) :: List.replicate n none ∧
      f1 { nx := f2 { nx := fun ρ2 => ρ2[1]? = some (some (.im (.list (C.map fun r => .tuple (r.map .int))))) ∧ C ≠ [] ∧ (∀ (i : Nat) (d : D), i ≠ 1 → ρ2[i]? = some (some (.im d)) → NA d) ∧ Fr p (ρ2.set 1 none) ∧ f E (ρ2.set 1 none), rt := E.rt }, rt := E.rt } ρ) : JSs X (s1 :: s2 :: sts) f' := by
  obtain ⟨t1, p1, k1⟩ := h1.ex
  obtain ⟨t2, p2, k2⟩ := h2.ex
  obtain ⟨t, pt, k⟩ := h.ex
  refine ⟨_, pss_cons p1 (pss_cons p2 pt), fun T ρ σ H E Dz r h e => ?_⟩
  obtain ⟨p, ms, C, n, hm, rfl, h⟩ := hf E ρ h
  obtain ⟨v1, q1, rv1⟩ := r.im 1 _ rfl
  have s0 : σ[0]? = some (some (.ref p)) := by
    obtain ⟨x, o, h1, _⟩ := r.ow 0 _ rfl
    rw [h1, r.tag 0 p _ x rfl h1]
  have own : ∀ a, Own (some (.ow (.par p (.lst ms))) :: some (.im (.list (C.map fun r => .tuple (r.map .int)))) :: List.replicate n none) σ a ↔ a = p := fun a => by
    constructor
    · rintro ⟨i, m, h1, h2⟩
      match i, h1 with
      | 0, h1 => rw [s0] at h2; cases h2; rfl
      | 1, h1 => simp at h1
      | i + 2, h1 =>
        exfalso
        simp [List.getElem?_replicate] at h1
    · rintro rfl
      exact ⟨0, _, rfl, s0⟩
  cases rv1 with
  | @lst ad xs _ g rr =>
    obtain ⟨nd, hd⟩ := hide_some.1 g
    have nlr : ∀ d, d ∈ (C.map fun r => (PyData.tuple (r.map .int))) → NL d := fun d hd => by
      obtain ⟨r, _, rfl⟩ := List.mem_map.mp hd
      exact .tup fun x hx => by
        obtain ⟨i, _, rfl⟩ := List.mem_map.mp hx
        exact .int i
    have keepNL : ∀ (S : Addr → Prop), (∀ a, S a → ∃ xs, H a = some (.lst xs)) → ∀ {d : D}, NL d → ∀ {v : L2.V}, Rp X.K (hide (Hd T (some (.ow (.par p (.lst ms))) :: some (.im (.list (C.map fun r => .tuple (r.map .int)))) :: List.replicate n none) σ) H) v d →
        Rp X.K (hide (Hd (fun a => T a ∨ S a) (some (.ow (.par p (.lst ms))) :: some (.im (.list (C.map fun r => .tuple (r.map .int)))) :: List.replicate n none) σ) H) v d := by
      intro S hS d nn
      induction nn with
      | non => intro v r; cases r; exact .non
      | bl b => intro v r; cases r; exact .bl b
      | int b => intro v r; cases r; exact .int b
      | str b => intro v r; cases r; exact .str b
      | @tup ds hn ih =>
        intro v r
        cases r with
        | @tup a xs _ g rr =>
          obtain ⟨n1, n2⟩ := hide_some.1 g
          refine .tup (hide_some.2 ⟨?_, n2⟩) ?_
          · rintro ((w | w) | w)
            · exact n1 (.inl w)
            · obtain ⟨ys, w⟩ := hS a w
              rw [n2] at w; cases w
            · exact n1 (.inr w)
          · clear g n1 n2 hn
            induction ds generalizing xs with
            | nil => cases rr; exact .nil
            | cons d ds ih2 => cases rr with
              | cons r1 r2 => exact .cons (ih d (by simp) r1) (ih2 (fun x hx => ih x (by simp [hx])) r2)
    have keepAll : ∀ (S : Addr → Prop), (∀ a, S a → ∃ xs, H a = some (.lst xs)) → ∀ {vs : List L2.V} {ds : List D}, (∀ d, d ∈ ds → NL d) → RpAll X.K (hide (Hd T (some (.ow (.par p (.lst ms))) :: some (.im (.list (C.map fun r => .tuple (r.map .int)))) :: List.replicate n none) σ) H) vs ds →
        RpAll X.K (hide (Hd (fun a => T a ∨ S a) (some (.ow (.par p (.lst ms))) :: some (.im (.list (C.map fun r => .tuple (r.map .int)))) :: List.replicate n none) σ) H) vs ds := fun S hS {vs ds} n r => rpAll_of (V := NL) (fun u e ne re => keepNL S hS ne re) n r
    have r1 : RS X.K (fun a => T a ∨ (a ≠ p ∧ a ≠ ad ∧ ∃ xs, H a = some (.lst xs))) (some (.ow (.par p (.lst ms))) :: some (.im (.list (C.map fun r => .tuple (r.map .int)))) :: List.replicate n none) σ H := by
      have hS : ∀ a, (a ≠ p ∧ a ≠ ad ∧ ∃ xs, H a = some (.lst xs)) → ∃ xs, H a = some (.lst xs) := fun a h => h.2.2
      refine ⟨r.len, fun i d w => ?_, fun i m w => ?_, r.inj, fun a t w => ?_, fun a t => ?_, r.tag⟩
      · match i, w with
        | 0, w => simp at w
        | 1, w =>
          simp at w
          subst w
          refine ⟨.ref ad, q1, .lst (hide_some.2 ⟨?_, hd⟩) (keepAll _ hS nlr rr)⟩
          rintro ((w | ⟨_, w, _⟩) | w)
          · exact nd (.inl w)
          · exact w rfl
          · exact nd (.inr w)
        | i + 2, w => simp [List.getElem?_replicate] at w
      · match i, w with
        | 0, w =>
          obtain ⟨a, o, h1, h2, h3⟩ := r.ow 0 _ rfl
          simp at w
          subst w
          refine ⟨a, o, h1, h2, ?_⟩
          obtain ⟨x, y, z, rfl⟩ := hm
          cases o with
          | lst vs => exact keepAll _ hS (fun d hd => by simp at hd; rcases hd with rfl | rfl | rfl <;> exact .int _) h3
          | _ => exact False.elim h3
        | 1, w => simp at w
        | i + 2, w => simp [List.getElem?_replicate] at w
      · rcases t with t | ⟨t, _⟩
        · exact r.dis a t w
        · exact t ((own a).1 w)
      · rcases t with t | ⟨_, _, xs, w⟩
        · exact r.dom a t
        · unfold Lv; rw [w]; exact ⟨by simp, by simp⟩
    have low : ∀ {ρ' : Env} {σ' : L2.St} {H' : Hp} {v : L2.V} {d : D}, Rp X.K (hide (Hd (fun a => T a ∨ (a ≠ p ∧ a ≠ ad ∧ ∃ xs, H a = some (.lst xs))) ρ' σ') H') v d → Rp X.K (hide (Hd T ρ' σ') H') v d := fun r => r.mono (hide_sub fun a w => w.elim (fun t => .inl (.inl t)) .inr)
    refine k1 _ _ σ H _ _ r1 h ⟨fun ρ1 σ1 H1 ra pa h => ?_, fun d ρ1 σ1 v H1 ra pa rv h => e.rt _ _ _ _ _ (ra.sub fun a t => .inl t) pa (low rv) h, fun _ _ _ _ _ h => h.elim, fun _ _ _ _ _ h => h.elim⟩
    refine k2 _ _ σ1 H1 _ _ ra h ⟨fun ρ2 σ2 H2 rb pb h => ?_, fun d ρ2 σ2 v H2 rb pb rv h => e.rt _ _ _ _ _ (rb.sub fun a t => .inl t) (pa.trans pb) (low rv) h, fun _ _ _ _ _ h => h.elim, fun _ _ _ _ _ h => h.elim⟩
    have pab := pa.trans pb
    obtain ⟨e1, cn, na, fr, hfin⟩ := h
    have nad : ¬ Own (some (.ow (.par p (.lst ms))) :: some (.im (.list (C.map fun r => .tuple (r.map .int)))) :: List.replicate n none) σ ad := fun w => nd (.inr w)
    have ad2 : H2 ad = some (.lst xs) := pab.keep ad _ nad hd
    have rd := rb.drop (i := 1)
    have s02 : σ2[0]? = some (some (.ref p)) := by
      obtain ⟨a, b, c, w⟩ := fr.dice
      obtain ⟨x, o, h1, _⟩ := rd.ow 0 _ w
      rw [h1, rd.tag 0 p _ x w h1]
    have own2 : ∀ a, Own (ρ2.set 1 none) σ2 a ↔ a = p := fun a => by
      constructor
      · rintro ⟨i, m, h1, h2⟩
        by_cases z : i = 0
        · subst z; rw [s02] at h2; cases h2; rfl
        · obtain ⟨d, w, _⟩ := fr.rest i _ h1 z
          cases w
      · rintro rfl
        obtain ⟨a, b, c, w⟩ := fr.dice
        exact ⟨0, _, w, s02⟩
    have nadp : ad ≠ p := fun z => nad ((own ad).2 z)
    -- the list of slot 1 is hidden from now on
    obtain ⟨x0, xr, c0, cr, rfl, rfl⟩ : ∃ x0 xr c0 cr, xs = x0 :: xr ∧ C = c0 :: cr := by
      cases C with
      | nil => exact absurd rfl cn
      | cons c0 cr => cases xs with
        | nil => cases rr
        | cons x0 xr => exact ⟨x0, xr, c0, cr, rfl, rfl⟩
    have g2 : hide (Hd (fun a => T a ∨ (a ≠ p ∧ a ≠ ad ∧ ∃ xs, H a = some (.lst xs))) (ρ2.set 1 none) σ2) H2 ad = some (.lst (x0 :: xr)) := hide_some.2 ⟨by
      rintro ((w | ⟨_, w, _⟩) | w)
      · exact nd (.inl w)
      · exact w rfl
      · exact nadp ((own2 ad).1 w), ad2⟩
    obtain ⟨w1, w2, w3⟩ := rb.im 1 _ e1
    have hx0 : Rp X.K (hide (Hd (fun a => T a ∨ (a ≠ p ∧ a ≠ ad ∧ ∃ xs, H a = some (.lst xs))) (ρ2.set 1 none) σ2) H2) x0 (.tuple (c0.map .int)) := by
      have e0 := keepAll (fun a => a ≠ p ∧ a ≠ ad ∧ ∃ xs, H a = some (.lst xs)) (fun a h => h.2.2) nlr rr
      cases e0 with
      | cons e0 _ =>
        have e3 := e0.mono (pab.fz (T := fun a => T a ∨ (a ≠ p ∧ a ≠ ad ∧ ∃ xs, H a = some (.lst xs))))
        exact e3.mono (hide_sub fun a w => w.elim .inl fun w => .inr (own_drop w))
    have hb : ∀ a o, a ≠ ad → hide (Hd (fun a => T a ∨ (a ≠ p ∧ a ≠ ad ∧ ∃ xs, H a = some (.lst xs))) (ρ2.set 1 none) σ2) H2 a = some o → hide (Hd (fun a => (T a ∨ (a ≠ p ∧ a ≠ ad ∧ ∃ xs, H a = some (.lst xs))) ∨ a = ad) (ρ2.set 1 none) σ2) H2 a = some o := fun a o z w => by
      obtain ⟨u1, u2⟩ := hide_some.1 w
      refine hide_some.2 ⟨?_, u2⟩
      rintro ((t | t) | t)
      · exact u1 (.inl t)
      · exact z t
      · exact u1 (.inr t)
    have q : Qs X.K (fun a => (T a ∨ (a ≠ p ∧ a ≠ ad ∧ ∃ xs, H a = some (.lst xs))) ∨ a = ad) (fun a => H a = none) p (ρ2.set 1 none) σ2 H2 := by
      refine ⟨⟨rd.len, fun i d w => ?_, fun i m w => ?_, rd.inj, fun a t w => ?_, fun a t => ?_, rd.tag⟩, fr, fun a ys t z w => ?_, fun a w => ?_⟩
      · obtain ⟨v, u1, u2⟩ := rd.im i d w
        refine ⟨v, u1, na_keep hb g2 hx0 (na i d ?_ ?_) u2⟩
        · rintro rfl
          rcases getset w with ⟨_, _, w⟩ | ⟨w, _⟩
          · cases w
          · exact w rfl
        · rcases getset w with ⟨_, _, w⟩ | ⟨_, w⟩
          · cases w
          · exact w
      · obtain ⟨a, o, u1, u2, u3⟩ := rd.ow i m w
        refine ⟨a, o, u1, u2, ?_⟩
        by_cases z : i = 0
        · subst z
          obtain ⟨x, y, z, w'⟩ := fr.dice
          rw [w] at w'; cases w'
          cases o with
          | lst vs => exact nls_keep hb g2 (fun d hd => by simp at hd; rcases hd with rfl | rfl | rfl <;> exact .int _) u3
          | _ => exact False.elim u3
        · obtain ⟨d, w', _⟩ := fr.rest i _ w z
          cases w'
      · rcases t with t | t
        · exact rd.dis a t w
        · subst t; exact nadp ((own2 a).1 w)
      · rcases t with t | t
        · exact rd.dom a t
        · subst t; unfold Lv; rw [ad2]; exact ⟨by simp, by simp⟩
      · cases u : H a with
        | none => rfl
        | some o =>
          exfalso
          have k3 := pab.keep a o (fun y => z ((own a).1 y)) u
          rw [w] at k3; cases k3
          by_cases y : a = ad
          · exact t (.inr y)
          · exact t (.inl (.inr ⟨z, y, ys, u⟩))
      · cases u : H a with
        | none => rfl
        | some o => exact absurd w (pab.dom a (by rw [u]; simp))
    have back : ∀ {ρ' : Env} {σ' : L2.St} {H' : Hp}, Qs X.K (fun a => (T a ∨ (a ≠ p ∧ a ≠ ad ∧ ∃ xs, H a = some (.lst xs))) ∨ a = ad) (fun a => H a = none) p ρ' σ' H' → Kp (fun a => H a = none) p H2 H' → RS X.K T ρ' σ' H' ∧ Po (some (.ow (.par p (.lst ms))) :: some (.im (.list ((c0 :: cr).map fun r => .tuple (r.map .int)))) :: List.replicate n none) σ H ρ' σ' H' := fun {ρ' σ' H'} q' k => by
      refine ⟨q'.rs.sub fun a t => .inl (.inl t), fun a o z w => ?_, fun a w => .inl ((own a).2 (q'.own.1 w)), fun a w => k.dom a (pab.dom a w)⟩
      exact k.keep a o (fun y => z ((own a).2 y)) (fun y => by rw [y] at w; cases w) (pab.keep a o z w)
    exact k _ _ p (ρ2.set 1 none) σ2 H2 E Dz q hfin ⟨fun ρ' σ' H' q' k h => e.nx _ _ _ (back q' k).1 (back q' k).2 h, fun d ρ' σ' v H' q' k rv h => e.rt _ _ _ _ _ (back q' k).1 (back q' k).2 (rv.mono (hide_sub fun a w => w.elim (fun t => .inl (.inl (.inl t))) .inr)) h⟩
theorem jss_b2 (h1 : JS X s1 f1) (h2 : JS X s2 f2) (h : JB X sts f) : JSs X (s1 :: s2 :: sts) (gB2 f1 f2 f) := jss_of_jb2 h1 h2 h _ fun _ _ h => h
end
end Dn
set_option Elab.async false
set_option linter.all false
set_option maxRecDepth 100000
set_option autoImplicit false
set_option maxHeartbeats 4000000
/-! len(set(xs)), xs a list of ints that may stand in it twice -/
namespace Dn
open PySem L2 Evl PySem.Spec PyProof.Rows
theorem dedup_nodup {acc : List Int} {x : Int} (h : acc.Nodup) : (step_dedup acc x).Nodup := by
  unfold step_dedup
  split
  · exact h
  · rename_i z
    rw [List.nodup_append]
    refine ⟨h, by simp, fun a ha b hb e => z ?_⟩
    rw [List.mem_singleton] at hb
    subst hb
    exact List.any_eq_true.mpr ⟨a, ha, by simp [e]⟩
theorem met_nodup (f : Nat → Int) : ∀ i, (firstMet f i).Nodup
  | 0 => by rw [firstMet_zero]; exact List.nodup_nil
  | i + 1 => by rw [firstMet_succ]; exact dedup_nodup (met_nodup f i)
theorem met_mem (ns : List Int) (k : Int) : k ∈ firstMet (fun i => ns.getD i 0) ns.length ↔ k ∈ ns := by
  have h := firstMet_any (fun i => ns.getD i 0) ns.length k
  have e : (List.range ns.length).map (fun i => ns.getD i 0) = ns := by
    apply List.ext_getElem
    · simp
    · intro i h1 h2
      simp [List.getD_eq_getElem?_getD, List.getElem?_eq_getElem h2]
  rw [e] at h
  have z : ∀ l : List Int, l.any (· == k) = true ↔ k ∈ l := fun l => by simp
  rw [← z, h, z]
section
variable {X : Cx} {a : Expr} {fa : DE} {pos p : Pos}
def tLenSetL (K : PySem.W.Frag) (ta : TE) : TE := fun σ H Q => ta σ H fun x H1 => ∃ (l : Addr) (ns : List Int), x = V.ref l ∧ SqL K H1 l (ns.map V.int) ∧ ns.length ≤ 4000 ∧ ∀ n : Nat, n ≤ ns.length → (n = ns.length ↔ ns.Nodup) → Q (.int n) H1
theorem pe_lenSetL {a : Expr} {ta : TE} {p p2 q pos : Pos} (hc : X.calm = true) (hg : Gl X "len") (hm : X.mg "len" = none) (hg2 : Gl X "set") (hm2 : X.mg "set" = none) (ha : PE X a ta)
    (na : starEach [a] X.env = (false, eval a X.env) :: starEach [] X.env := by rfl) : PE X (.Call (.Name "len" p) [.Call (.Name "set" p2) [a] [] q] [] pos) (tLenSetL X.K ta) := by
  refine ⟨fun pins s σ H Q I h => ?_⟩
  refine Call_ (ld_blt I hg hm PySem.boot_len ?_)
  refine PyProof.Rows.callWith_builtin1 (PyProof.Rows.args_cons ?_ rfl) rfl rfl
  refine Call_ (ld_blt I hg2 hm2 PyProof.Rows.boot_set ?_)
  refine PyProof.Rows.callWith_type1 (PyProof.Rows.args_cons (thn (ha.run pins s σ H _ I h) fun v s1 ⟨x, H1, I1, r1, q1⟩ => PyProof.Rows.args_nil ?_) na) na rfl
  obtain ⟨l, ns, rfl, hq, h1, q1⟩ := q1
  cases r1
  obtain ⟨its, r, pl, hz⟩ := I1.list hq
  have hl : its.toArray.size = ns.length := by rw [List.size_toArray, ← r.length, List.length_map]
  refine call_set_list (I1.ok.hd hc) pl.isList (ns := ns) (by simpa using r.ints) (by unfold scanBound; omega) fun h' tk hS hk => ?_
  rw [hl] at hS
  refine PyProof.Rows.args_nil ?_
  obtain ⟨o, es, ep, t, ho, hex, hd, _, _, _, hf, hn⟩ := hS
  have I2 : Inv X pins σ H1 { s1 with heap := h', toks := tk } := I1.kept fun b o e => hk b o (Heap.lt_size e) e
  have w := nodup_iff_len (firstMet (fun i => ns.getD i 0) ns.length) ns (met_nodup _ _) (met_mem ns)
  refine call_len_set ho hex hd hf (by rw [hn]; omega) ⟨.int (firstMet (fun i => ns.getD i 0) ns.length).length, H1, I2.tok _, ⟨_, by rw [hn]⟩, q1 _ w.1 w.2⟩
def dLenSetL (fa : DE) : DE := fun ρ Q => fa ρ fun z ρ1 => ∃ ns : List Int, z = .list (ns.map PyData.int) ∧ ns.length ≤ 4000 ∧ ∀ n : Nat, n ≤ ns.length → (n = ns.length ↔ ns.Nodup) → Q (.int n) ρ1
theorem je_lenSetL {p2 q : Pos} (hc : X.calm = true) (hm : X.mg "len" = none) (hm2 : X.mg "set" = none) (ha : JE X a fa) (hg : Gl X "len" := by rfl) (hg2 : Gl X "set" := by rfl)
    (na : starEach [a] X.env = (false, eval a X.env) :: starEach [] X.env := by rfl) : JE X (.Call (.Name "len" p) [.Call (.Name "set" p2) [a] [] q] [] pos) (dLenSetL fa) := by
  obtain ⟨ta, pa, ka⟩ := ha.ex
  refine ⟨_, pe_lenSetL hc hg hm hg2 hm2 pa na, fun T ρ σ H QD Q r h q => ka T ρ σ H _ _ r h fun z ρ1 v H1 r1 p1 v1 h => ?_⟩
  obtain ⟨ns, rfl, h1, h2⟩ := h
  cases v1 with
  | lst hp rr =>
    obtain rfl := rr.of_ints
    exact ⟨_, ns, rfl, .inl (.inl (at_of hp)), h1, fun n ha hn => q _ _ _ _ r1 p1 (.int _) (h2 n ha hn)⟩
end
end Dn
set_option Elab.async false
set_option linter.all false
set_option maxRecDepth 100000
set_option autoImplicit false
set_option maxHeartbeats 4000000
/-! a range that a frame keeps under a name; [(x, y, z) for x in letters for y in letters for z in letters] of it -/
namespace Dn
open PySem L2 Evl Cq PyProof.Rows
section
variable {X : Cx} {e : Expr} {fe : DE} {pos : Pos}
def xRng (fe : DE) : DX := fun ρ Q => fe ρ fun d ρ1 => ∃ j : Int, d = .int j ∧ Q (.ow (.rng j)) ρ1
theorem jx_rng {q2 q4 : Pos} (hm : X.mg "range" = none) (he : JE X e fe) (hg : Gl X "range" := by rfl)
    (hst : starEach [e] X.env = (false, eval e X.env) :: starEach [] X.env := by rfl) (hpl : (backTo q4 (starEach [] X.env)).any (·.1) = false := by rfl) : JX X (.Call (.Name "range" q2) [e] [] q4) (xRng fe) := by
  obtain ⟨te, pe, ke⟩ := he.ex
  refine ⟨_, pe_callTy cr_range1 hg hm boot_range (pa_cons pe pa_nil hst) (by decide) (by decide) hst hpl, fun T ρ σ H QD Q r h q => ke T ρ σ H _ _ r h fun d ρ1 v H1 r1 p1 v1 h => ?_⟩
  obtain ⟨j, rfl, h⟩ := h
  cases v1
  refine ⟨j, rfl, fun p hp => ?_⟩
  have hp0 : H p = none := by
    cases z : H p with
    | none => rfl
    | some o => exact absurd hp (p1.dom p (by rw [z]; simp))
  exact q (SV.ow (.rng j)) ρ1 _ _ ⟨p, .rng 0 j, rfl, hp0, upd_same, r1.laid hp, ⟨rfl, rfl⟩, fun _ _ z => nomatch z⟩ (p1.trans (.grow (Ex.new hp))) h
def dThr : DE := fun ρ Q => ρ.length = 7 ∧ ∃ n : Nat, ρ[1]? = some (some (.ow (.rng n))) ∧ n ≤ 60 ∧ Q (.list ((t3 n).map tT)) ρ
theorem je_thr {sc : Scope} {p2 p3 p4 p5 p6 p7 p8 p9 pa pb pc : Pos} {kk} {l : Str} (hc : X.calm = true) (hN : X.N.Nodup) (n1 : X.N[1]? = some l) (hd : (l == ("__debug__" : Str)) = false := by decide) (hcd : (l == ("__classdict__" : Str)) = false := by decide)
    (v1 : Vis X.env.scope l) (ok : BlkOk X.N X.env.scope sc [("x", 4), ("y", 5), ("z", 6)])
    (pi1 : InBlk X sc fun Y => PE Y (.Name l p5) (tVar 1)) (pi2 : InBlk X sc fun Y => PE Y (.Name l p7) (tVar 1))
    (gx : InBlk X sc fun Y => PG Y (.Name "x" p2) (gName 4)) (gy : InBlk X sc fun Y => PG Y (.Name "y" p4) (gName 5)) (gz : InBlk X sc fun Y => PG Y (.Name "z" p6) (gName 6))
    (el : InBlk X sc fun Y => PE Y (.Tuple [.Name "x" p8, .Name "y" p9, .Name "z" pa] kk pb) (tTup (tCons (tVar 4) (tCons (tVar 5) (tCons (tVar 6) tNil))))) :
    JE X (.ListComp (.Tuple [.Name "x" p8, .Name "y" p9, .Name "z" pa] kk pb) [⟨.Name "x" p2, .Name l p3, [], 0⟩, ⟨.Name "y" p4, .Name l p5, [], 0⟩, ⟨.Name "z" p6, .Name l p7, [], 0⟩] sc pc) dThr := by
  have acts : ∀ D, InBlk X sc fun Y => Act Y (aFor (.ListComp (.Tuple [.Name "x" p8, .Name "y" p9, .Name "z" pa] kk pb) [⟨.Name "x" p2, .Name l p3, [], 0⟩, ⟨.Name "y" p4, .Name l p5, [], 0⟩, ⟨.Name "z" p6, .Name l p7, [], 0⟩] sc pc) 1 (.Name l p5)) (.ref D) [5, 6]
      (bFor (iRg (tVar 1)) (gName 5) tYes (bFor (iRg (tVar 1)) (gName 6) tYes (bApp D (tTup (tCons (tVar 4) (tCons (tVar 5) (tCons (tVar 6) tNil))))) [6]) [5, 6]) := fun D s H C cl fp => by
    have e1 := el s H C cl fp
    have y1 := pi1 s H C cl fp
    have y2 := pi2 s H C cl fp
    have z1 := gy s H C cl fp
    have z2 := gz s H C cl fp
    generalize hY : X.blk s H sc (compEnvC sc cl C X.env) fp = Y at e1 y1 y2 z1 z2
    have x1 : Y.xe = fun _ _ => False := by rw [← hY]
    have x2 : Y.calm = true := by rw [← hY]; exact hc
    exact act_for x1 x2 rfl turn3_1 (pi_rg (tg := .Name "y" p4) y1) z1 pts_nil (act_for x1 x2 rfl turn3_2 (pi_rg (tg := .Name "z" p6) y2) z2 pts_nil (act_app x1 e1) (by intro i hi; cases hi) (fun _ => rfl)) (by intro i hi; simp at hi ⊢; exact .inr hi) (fun _ => rfl)
  have a2 := pe_lcN (X := X) (pos := pc) (own := [("x", 4), ("y", 5), ("z", 6)]) (vin := [5, 6]) (act := aFor _ 1 (.Name l p5))
    (bd := fun D => bFor (iRg (tVar 1)) (gName 5) tYes (bFor (iRg (tVar 1)) (gName 6) tYes (bApp D (tTup (tCons (tVar 4) (tCons (tVar 5) (tCons (tVar 6) tNil))))) [6]) [5, 6]) (wi := iRg (tVar 1)) (g := gName 4) (tt := tYes)
    hc hN turn3_0 (pi_rg (tg := .Name "x" p2) (pe_var (i := 1) (pos := p3) n1 v1 hd hcd)) ok (by decide) gx (fun _ _ _ _ _ => pts_nil)
    acts (fun _ => rfl)
  refine ⟨_, a2, fun T ρ σ H QD Q r h k => ?_⟩
  obtain ⟨hl, n, hm, hn, h⟩ := h
  obtain ⟨p, o, s1, hp, ho⟩ := r.ow 1 _ hm
  obtain ⟨rfl⟩ : o = .rng 0 n := by
    cases o with
    | rng lo hi => obtain ⟨e1, e2⟩ := ho; rw [e1, e2]
    | _ => exact False.elim ho
  have len : σ.length = 7 := by rw [← r.len]; exact hl
  obtain ⟨b0, b1, b2, b3, b4, b5, b6, rfl⟩ : ∃ b0 b1 b2 b3 b4 b5 b6, σ = [b0, b1, b2, b3, b4, b5, b6] := by
    match σ, len with
    | [b0, b1, b2, b3, b4, b5, b6], _ => exact ⟨_, _, _, _, _, _, _, rfl⟩
  simp at s1
  subst s1
  refine ⟨_, rfl, p, n, rfl, hp, by omega, by omega, fun L hL => ?_⟩
  refine clause_W (i := 4) (vs := [4, 5, 6]) (H1 := H) (L := L) (n := n) (σ := [b0, some (.ref p), b2, b3, b4, b5, b6])
    (bd := bFor (iRg (tVar 1)) (gName 5) tYes (bFor (iRg (tVar 1)) (gName 6) tYes (bApp L (tTup (tCons (tVar 4) (tCons (tVar 5) (tCons (tVar 6) tNil))))) [6]) [5, 6])
    (fun x => (rgI n).flatMap fun y => (rgI n).map fun z => (x, y, z)) (ts := []) (Nx := fun H' => Q (.ref L) H') (fun x => rfl) (fun x us H' Ny hx t e k1 => ?_) ⟨Ex.new hL, [], upd_same, .nil⟩ (fun H' t => ?_)
  · have cap : ∀ us : List (Int × Int × Int), us.length ≤ n * (n * n) → us.length < 16777216 := fun us l => by
      have a := Nat.mul_le_mul hn (Nat.mul_le_mul hn hn)
      omega
    refine clause_ok (p := p) (n := n) (fun y => (rgI n).map fun z => ((x : Int), y, z)) hp (by omega) (fun H' Q q => ⟨_, rfl, q⟩) (fun x => rfl) (fun y us2 H2 Nz hy t2 e2 k2 => ?_) t k1
    refine clause_ok (p := p) (n := n) (fun z => [((x : Int), (y : Int), z)]) hp (by omega) (fun H' Q q => ⟨_, rfl, q⟩) (fun x => rfl) (fun z us3 H3 Nw hz t3' e3 k3 => ?_) t2 (fun H3 q => k2 H3 (by rw [← flat_one]; exact q))
    refine tri_step t3' hL (cap _ ?_) rfl rfl rfl k3
    have c1 : us.length = x * (n * n) := by
      rw [e, List.nil_append, flat_len _ _ (n * n) fun a _ => ?_, rgI_len]
      rw [flat_len _ _ n fun b _ => by rw [List.length_map, rgI_len], rgI_len]
    have c2 : us2.length = us.length + y * n := by
      rw [e2, List.length_append, flat_len _ _ n fun b _ => by rw [List.length_map, rgI_len], rgI_len]
    have c3 : us3.length = us2.length + z := by
      rw [e3, List.length_append, flat_len _ _ 1 fun b _ => rfl, rgI_len, Nat.mul_one]
    have h1 : (x + 1) * (n * n) ≤ n * (n * n) := Nat.mul_le_mul_right _ hx
    have h2 : (y + 1) * n ≤ n * n := Nat.mul_le_mul_right _ hy
    rw [Nat.succ_mul] at h1 h2
    omega
  · obtain ⟨eX, us, hl2, hp3⟩ := t
    rw [List.nil_append] at hp3
    have noO : ∀ a, Hd T ρ [b0, some (.ref p), b2, b3, b4, b5, b6] a → H a ≠ none := fun a => r.hdDom
    exact k _ _ _ _ (r.grow eX) (.grow eX) (.lst (hide_some.2 ⟨fun w => noO L w hL, hl2⟩) (tri_rp noO hp3)) h
end
end Dn
set_option Elab.async false
set_option linter.all false
set_option maxRecDepth 100000
set_option autoImplicit false
set_option maxHeartbeats 4000000
/-! a[i][j] = e, told by its shape; str(i) -/
namespace Dn
open PySem L2 Evl PySem.Spec PyProof.Rows
theorem Qs.store1e {K : PySem.W.Frag} {T B : Addr → Prop} {p : Addr} {ρ : Env} {σ : L2.St} {H : Hp} (q : Qs K T B p ρ σ H) {m : Nat} {w v : V} {d : D} {ds : List D} (h2 : Rp K (hide (Hd T ρ σ) H) w (.list ds)) (n0 : ∀ x, x ∈ ds → NL x) (nd : NL d) (rv : Rp K (hide (Hd T ρ σ) H) v d) :
    ∃ b xs ρ3, w = .ref b ∧ H b = some (.lst xs) ∧ xs.length = ds.length ∧ Qs K T B p ρ3 σ (upd H b (.lst (xs.set m v))) ∧ Kp B p H (upd H b (.lst (xs.set m v))) ∧ ChE (Ch (ds.set m d)) ρ ρ3 ∧
      ∀ u e, NL e → Rp K (hide (Hd T ρ σ) H) u e → Rp K (hide (Hd T ρ3 σ) (upd H b (.lst (xs.set m v)))) u e := by
  cases h2 with
  | @lst b xs _ g1 rr =>
    obtain ⟨nb, hl⟩ := hide_some.1 g1
    have nt : ¬ T b := fun z => nb (q.hd.2 (.inl z))
    have np : b ≠ p := fun z => nb (q.hd.2 (.inr z))
    have g2 : hide (Hd T ρ σ) (upd H b (.lst (xs.set m v))) b = some (.lst (xs.set m v)) := hide_some.2 ⟨nb, upd_same⟩
    have ne : ∀ x, x ∈ ds.set m d → NL x := fun x hx => (List.mem_or_eq_of_mem_set hx).elim (n0 x) fun z => by rw [z]; exact nd
    obtain ⟨ρ3, a1, a2, a3, a4⟩ := q.store (us := xs.set m v) (R := Ch (ds.set m d)) hl nt np fun _ pd _ r => by
      obtain ⟨d', r', c⟩ := pl_change (hide_upd) g1 g2 rr n0 (rr.set m rv) ne (by simp) pd r
      exact ⟨d', r', c, c.pl ne pd⟩
    exact ⟨b, xs, ρ3, rfl, hl, rr.length, a1, a2, a3, fun u e n r => by rw [a4]; exact nl_keep hide_upd g1 n r⟩
def gSubBE (fe fk : DE) : DG := fun d ρ QD => ∀ p, Fr p ρ → NL d ∧ fe ρ fun dd ρ1 => Fr p ρ1 ∧ fk ρ1 fun kk ρ2 => Fr p ρ2 ∧ ∃ ds j m, dd = .list ds ∧ kk = .int j ∧ ixN ds.length j = some m ∧ (∀ x, x ∈ ds → NL x) ∧ ∀ ρ3, ChE (Ch (ds.set m d)) ρ2 ρ3 → QD ρ3
section
variable {X : Cx} {o b : Expr} {pos ps : Pos}
theorem jgb_subE {f0 f1 : DE} (ho : JE X o f0) (hi : JE X b f1)
    (ha : ∀ v, assign (.Subscript o b ps) X.env v = (do
      let ov ← holding [v] (eval o X.env); let iv ← holding [v, ov] (eval b X.env); standAt ps; holding [v, ov, iv] (setItem ov iv v); release [v, ov, iv] []) := by intro _; rfl) : JGB X NL (.Subscript o b ps) (gSubBE f0 f1) := by
  obtain ⟨t0, p0, k0⟩ := ho.ex
  obtain ⟨t1, p1, k1⟩ := hi.ex
  refine ⟨_, pg_sub p0 p1 set_list ha, fun T B p ρ σ H v d QD Q q rv h k => ?_⟩
  obtain ⟨nd, h⟩ := h p q.fr
  refine k0 T ρ σ H _ _ q.rs h fun dd ρ1 w H1 r1 po1 v1 h => ?_
  refine k1 T ρ1 σ H1 _ _ r1 h.2 fun kk ρ2 z H2 r2 po2 v2 h2 => ?_
  obtain ⟨f2, ds, j, m, rfl, rfl, e2, n0, h2⟩ := h2
  have q1 := q.step r1 po1 h.1
  have q2 := q1.step r2 po2 f2
  obtain ⟨l, xs, ρ3, rfl, a2, a3, a4, a5, a6, a7⟩ := q2.store1e (m := m) (v1.mono po2.fz) n0 nd ((rv.mono po1.fz).mono po2.fz)
  cases v2
  exact ⟨l, xs, j, m, rfl, rfl, a2, by rw [a3]; exact e2, k ρ3 _ a4 (((q.kp po1).trans (q1.kp po2)).trans a5) (fun u e ne ru => a7 u e ne ((ru.mono po1.fz).mono po2.fz)) (h2 ρ3 a6)⟩
def dStrI : List D → (D → Prop) → Prop
  | [.int i] => fun Q => i.natAbs.log2 < 1920 ∧ Q (.str (toString i))
  | _ => fun _ => False
theorem calld_strI : CallD X (.type "str") dStrI := by
  refine ⟨_, call_str_int, fun O H vs ds QD Q hO r h k => ?_⟩
  unfold dStrI at h
  split at h
  · obtain ⟨v, rfl, w1⟩ := rp1 r
    cases w1
    exact ⟨_, rfl, h.1, k _ _ H (.refl H) (.str _) h.2⟩
  · exact False.elim h
end
end Dn
set_option Elab.async false
set_option linter.all false
set_option maxRecDepth 100000
set_option autoImplicit false
set_option maxHeartbeats 4000000
/-! a, b, c = e1, e2, [..]: the third one a new object that the frame owns -/
namespace Dn
open PySem L2 Evl PySem.Spec PyProof.Rows
def sPar3 (i j k : Nat) (f g : DE) (h : DX) : DS := fun E ρ => f ρ fun d1 ρ1 => g ρ1 fun d2 ρ2 => h ρ2 fun s3 ρ3 => E.nx (((ρ3.set i (some (.im d1))).set j (some (.im d2))).set k (some s3))
section
variable {X : Cx} {a b c : Expr} {pos : Pos} {x y z : Str}
theorem js_par3 {i j k : Nat} {f g : DE} {h : DX} {px py pz pt : Pos} {kt k2 pt2} (hc : X.calm = true) (hN : X.N.Nodup) (hi : X.N[i]? = some x) (hj : X.N[j]? = some y) (hk : X.N[k]? = some z) (hij : i ≠ j) (hik : i ≠ k) (hjk : j ≠ k)
    (hx : X.env.scope.names.lookup x = some .local) (hy : X.env.scope.names.lookup y = some .local) (hz : X.env.scope.names.lookup z = some .local)
    (ha : JE X a f) (hb : JE X b g) (hcc : JX X c h)
    (hw : swappedStores [.Tuple [.Name x px, .Name y py, .Name z pz] kt pt] (.Tuple [a, b, c] k2 pt2) X.env = pure (some [x, y, z])) (hs : swapsWithSole [.Tuple [.Name x px, .Name y py, .Name z pz] kt pt] (.Tuple [a, b, c] k2 pt2) pos.line X.env = pure false := by rfl)
    (h1 : starEach [a, b, c] X.env = (false, eval a X.env) :: starEach [b, c] X.env := by rfl) (h2 : starEach [b, c] X.env = (false, eval b X.env) :: starEach [c] X.env := by rfl) (h3 : starEach [c] X.env = (false, eval c X.env) :: starEach [] X.env := by rfl) :
    JS X (.Assign [.Tuple [.Name x px, .Name y py, .Name z pz] kt pt] (.Tuple [a, b, c] k2 pt2) pos) (sPar3 i j k f g h) := by
  obtain ⟨t1, p1, k1⟩ := ha.ex
  obtain ⟨t2, p2, k2⟩ := hb.ex
  obtain ⟨t3, p3, k3⟩ := hcc.ex
  refine ⟨_, ps_par3 hc hN hi hj hk hij hik hjk hx hy hz (pa_cons p1 (pa_cons p2 (pa_cons p3 pa_nil h3) h2) h1) hw hs, fun T ρ σ H E D r h kk => ?_⟩
  refine k1 T ρ σ H _ _ r h fun d1 ρ1 v H1 r1 q1 v1 h => k2 T ρ1 σ H1 _ _ r1 h fun d2 ρ2 w H2 r2 q2 v2 h => k3 T ρ2 σ H2 _ _ r2 h fun s3 ρ3 u H3 f3 q3 h => ⟨v, w, u, rfl, ?_⟩
  obtain ⟨r4, q4⟩ := fits_set (i := k) r2 q3 f3
  have r5 := r4.setIm (i := j) (v2.mono q4.fz)
  have e5 := q4.trans (Po.setIm (i := j) (d := d2) (v := w))
  have r6 := r5.setIm (i := i) ((v1.mono q2.fz).mono e5.fz)
  have e6 := e5.trans (Po.setIm (i := i) (d := d1) (v := v))
  rw [setc hjk.symm, setc hik.symm, setc hij.symm, setc hjk.symm, setc hik.symm, setc hij.symm] at r6 e6
  exact kk.nx _ _ _ r6 ((q1.trans q2).trans e6) h
end
end Dn
set_option Elab.async false
set_option linter.all false
set_option maxRecDepth 100000
set_option autoImplicit false
set_option maxHeartbeats 4000000
/-! len(set(t)), t a tuple of ints: how it stands to len(t) -/
namespace Dn
open PySem L2 Evl PySem.Spec PyProof.Rows
section
variable {X : Cx} {a : Expr} {fa : DE} {pos p : Pos}
def tLenSetT2 (K : PySem.W.Frag) (ta : TE) : TE := fun σ H Q => ta σ H fun x H1 => ∃ (l : Addr) (ns : List Int), x = V.ref l ∧ SqT K H1 l (ns.map V.int) ∧ ns.length ≤ 4000 ∧ ∀ n : Nat, n ≤ ns.length → (n = ns.length ↔ ns.Nodup) → Q (.int n) H1
theorem pe_lenSetT2 {a : Expr} {ta : TE} {p p2 q pos : Pos} (hc : X.calm = true) (hg : Gl X "len") (hm : X.mg "len" = none) (hg2 : Gl X "set") (hm2 : X.mg "set" = none) (ha : PE X a ta)
    (na : starEach [a] X.env = (false, eval a X.env) :: starEach [] X.env := by rfl) : PE X (.Call (.Name "len" p) [.Call (.Name "set" p2) [a] [] q] [] pos) (tLenSetT2 X.K ta) := by
  refine ⟨fun pins s σ H Q I h => ?_⟩
  refine Call_ (ld_blt I hg hm PySem.boot_len ?_)
  refine PyProof.Rows.callWith_builtin1 (PyProof.Rows.args_cons ?_ rfl) rfl rfl
  refine Call_ (ld_blt I hg2 hm2 PyProof.Rows.boot_set ?_)
  refine PyProof.Rows.callWith_type1 (PyProof.Rows.args_cons (thn (ha.run pins s σ H _ I h) fun v s1 ⟨x, H1, I1, r1, q1⟩ => PyProof.Rows.args_nil ?_) na) na rfl
  obtain ⟨l, ns, rfl, hq, h1, q1⟩ := q1
  cases r1
  obtain ⟨its, r, pl, hz⟩ := I1.tuple hq
  refine call_set_tupI ns (I1.ok.hd hc) pl (by simpa using r.ints) (by unfold scanBound; omega) fun h' tk c R hc2 hk => ?_
  refine PyProof.Rows.args_nil ?_
  obtain ⟨o, es, ep, t, ho, hex, hd, _, nd, hm, hb, hf, hn, _⟩ := R
  have I2 : Inv X pins σ H1 { s1 with heap := h', toks := tk } := I1.kept fun b o e => hk b o e
  have hl := nodup_iff_len _ ns nd fun k => by rw [← hm k]; simp
  rw [List.length_map, Array.length_toList] at hl
  refine call_len_set ho hex hd hf (by omega) ⟨.int es.size, H1, I2.tok _, ⟨_, rfl⟩, q1 _ hl.1 hl.2⟩
def dLenSet2 (fa : DE) : DE := fun ρ Q => fa ρ fun z ρ1 => ∃ ns : List Int, z = .tuple (ns.map PyData.int) ∧ ns.length ≤ 4000 ∧ ∀ n : Nat, n ≤ ns.length → (n = ns.length ↔ ns.Nodup) → Q (.int n) ρ1
theorem je_lenSet2 {p2 q : Pos} (hc : X.calm = true) (hm : X.mg "len" = none) (hm2 : X.mg "set" = none) (ha : JE X a fa) (hg : Gl X "len" := by rfl) (hg2 : Gl X "set" := by rfl)
    (na : starEach [a] X.env = (false, eval a X.env) :: starEach [] X.env := by rfl) : JE X (.Call (.Name "len" p) [.Call (.Name "set" p2) [a] [] q] [] pos) (dLenSet2 fa) := by
  obtain ⟨ta, pa, ka⟩ := ha.ex
  refine ⟨_, pe_lenSetT2 hc hg hm hg2 hm2 pa na, fun T ρ σ H QD Q r h q => ka T ρ σ H _ _ r h fun z ρ1 v H1 r1 p1 v1 h => ?_⟩
  obtain ⟨ns, rfl, h1, h2⟩ := h
  cases v1 with
  | tup hp rr =>
    obtain rfl := rr.of_ints
    exact ⟨_, ns, rfl, sqt_of hp, h1, fun n hn0 hn => q _ _ _ _ r1 p1 (.int _) (h2 n hn0 hn)⟩
end
end Dn
set_option Elab.async false
set_option linter.all false
set_option maxRecDepth 100000
set_option autoImplicit false
set_option maxHeartbeats 4000000
/-! dicts with tuples of ints as keys: {k: v}, k in d, d[k] = v, sorted(d) -/
namespace Dn
open PySem PySem.W PySem.Calls L2 Evl PySem.Spec PyProof.Rows SrL
/-- {k: v}, k a tuple -/
def tDispT (tk tv : TE) : TE := fun σ H Q => ∀ p, H p = none → tk σ (upd H p (.dT [])) fun x H1 => tv σ H1 fun y H2 => H2 p = some (.dT []) ∧ ∃ b ks, x = .ref b ∧ H2 b = some (.tup (ks.map kV)) ∧ Q (.ref p) (upd H2 p (.dT [(ks, y)]))
theorem pe_dispT {X : Cx} {pos : Pos} {k v : Expr} {tk tv : TE} (hu : X.A.units + 64 < cLine) (hk : PE X k tk) (hv : PE X v tv) : PE X (.Dict [some k] [v] pos) (tDispT tk tv) := by
  refine ⟨fun pins s σ H Q I q => ?_⟩
  have hn := I.hok.fresh (Nat.le_refl s.heap.objs.size)
  have I1 := I.laid (a := s.heap.objs.size) (o := .dT []) (h' := s.heap.push { cls := .type "dict", data := .dict #[] }) (t' := s.toks) (fun _ _ q => Heap.get?_push_of_some _ q) (Nat.le_refl _) (dt_empty s.heap I.big)
  refine wpAny_Dict_any rfl rfl (by simp) (by simp) (pairTrees_cons_walk (thn (hk.run pins _ σ _ _ I1 (q _ hn)) fun u s1 ⟨x, H1, I2, rx, q1⟩ => thn (hv.run pins s1 σ H1 _ I2 q1) fun w2 s2 ⟨y, H2, I3, ry, q2⟩ => pairTrees_nil_walk ?_))
  obtain ⟨e, b, ks, rfl, eb, q2⟩ := q2
  obtain rfl : u = Value.ref b := rx
  obtain ⟨z, hd, xs, rel, dd⟩ := dt_of I3.hok e
  have hx0 : xs = [] := by
    have := Paired.length rel
    exact List.length_eq_zero_iff.mp this.symm
  subst hx0
  unfold storeAll
  rw [List.forIn_cons]
  refine wpAny_bind (wpAny_bind (wpAny_dictSet_heap (knd := tupleKind (mixKind X.prog X.w)) (hsz := Nat.zero_le _) (show X.A.units < cLine by omega) (key_of I3.hok eb) dd fun h' dd' hs => wpAny_pure ?_))
  show wpAny _ _ (forIn ([] : List (Value × Value)) PUnit.unit _) _ _ _
  rw [List.forIn_nil]
  refine wpAny_pure ⟨.ref s.heap.objs.size, _, ?_, rfl, q2⟩
  obtain ⟨o, es, ep, hq, h2, h3, h4, _, h5⟩ := dd'
  refine d_write I3 (by rw [e]; exact True.intro) hs ⟨o, hq⟩ ⟨by rw [sizeLine_eq]; simp, hd, _, ?_, o, es, ep, hq, h2, h3, h4, h5⟩
  have r2 := rel.put ks eb ry
  exact KT.keeps r2 fun c ys ec => by
    rw [upd_ne (ne_of ec e (fun z => nomatch z))]
    exact ec

/-! ### sorted(d) -/
section
open SrtO Srt
variable {prog : Program} {w : World} {A : Around} {E : Value → Shared → Prop} {s : Shared}
theorem sorted_via {r : Addr} {vs : List Value} {ltv : Value → Value → Bool} {Q : Value → Shared → Prop} (Ow : Swo ltv) (hz : vs.length ≤ sizeLine)
    (hcol : ∀ R : List Value → Shared → Prop, (∀ (g : Heap) (tk : Nat), (∀ b o, s.heap.get? b = some o → g.get? b = some o) → R vs { s with heap := g, toks := tk }) → wpAny (model prog w) A.in1 (collect (.ref r)) R E s)
    (hS : 2 ≤ vs.length → ∀ (g : Heap) (tk : Nat) (a : Addr), g.get? a = some (seqObj "list" vs.toArray 0) → (∀ b o, s.heap.get? b = some o → b ≠ a ∧ g.get? b = some o) → SortableO prog w A.in1.in1 { s with heap := g, toks := tk } a vs ltv)
    (h : ∀ (g : Heap) (tk : Nat) (d : Addr) (out : List Value), Srtd ltv out → Stb ltv out vs → (∀ b o, s.heap.get? b = some o → g.get? b = some o) → s.heap.get? d = none → (∃ n, g.get? d = some (seqObj "list" out.toArray n)) → Q (.ref d) { s with heap := g, toks := tk }) :
    wpAny (model prog w) A (call (.builtin "sorted") [.ref r]) Q E s := by
  refine call_function_entry kind_sorted plain_sorted entry_sorted (args_sorted1 _) ?body
  unfold Builtin.«sorted»
  refine wpAny_bind (m := checkCount "sorted" 1 1 _) (wpAny_pure (wpAny_bind (hcol _ fun g tk k1 => wpAny_bind (wpAny_newList ?_ hz))))
  have lg : (g.push (seqObj "list" vs.toArray 0)).get? g.objs.size = some (seqObj "list" vs.toArray 0) := Heap.get?_push_size _ rfl
  have keep : ∀ b o, s.heap.get? b = some o → b ≠ g.objs.size ∧ (g.push (seqObj "list" vs.toArray 0)).get? b = some o := fun b o q => ⟨Nat.ne_of_lt (Heap.lt_size (k1 b o q)), Heap.get?_push_of_some _ (k1 b o q)⟩
  have hno : s.heap.get? g.objs.size = none := by
    cases z : s.heap.get? g.objs.size with
    | none => rfl
    | some o => exact absurd rfl (keep _ _ z).1
  show wpAny _ _ _ _ _ { s with heap := g.push (seqObj "list" vs.toArray 0), toks := tk }
  refine wpAny_bind (wpAny_holding (wpAny_call_entry slot_list_sort ⟨_, lg, rfl⟩ entry_list_sort (list_sort_ord Ow lg hz (fun h2 => hS h2 _ _ _ lg keep) fun out s1 s2 => ⟨_, rfl, ?fin⟩) (args_list_sort _)))
  obtain ⟨n, hn⟩ := PyProof.Rows.sortedHeap_at (vs := vs) (out := out.toArray) lg
  exact wpAny_pure ⟨_, rfl, h _ tk g.objs.size out s1 s2 (fun b o q => (PyProof.Rows.sortedHeap_old (keep b o q).1 (Heap.lt_size (keep b o q).2)).trans (keep b o q).2) hno ⟨n, hn⟩⟩
end
def ksOf (ns : List Int) : List Key := ns.map Sum.inl
theorem ks_kV (ns : List Int) : (ksOf ns).map kV = ns.map V.int := by
  unfold ksOf
  rw [List.map_map]
  rfl
theorem ks_inj : ∀ {a b : List Int}, ksOf a = ksOf b → a = b
  | [], [], _ => rfl
  | [], _ :: _, e => by simp [ksOf] at e
  | _ :: _, [], e => by simp [ksOf] at e
  | x :: a, y :: b, e => by
    simp only [ksOf, List.map_cons, List.cons.injEq, Sum.inl.injEq] at e
    rw [e.1, ks_inj (a := a) (b := b) e.2]
theorem sq_tup {K : PySem.W.Frag} {H : Hp} {b : Addr} {xs : List V} (h : H b = some (.tup xs)) : SqT K H b xs := sqt_of (O := fun _ => False) (hide_some.2 ⟨id, h⟩)
def adV : Value → Addr
  | .ref a => a
  | _ => 0
theorem vals_ad : ∀ {us : List Value}, (∀ u, u ∈ us → ∃ a, u = Value.ref a) → Vals (us.map fun u => V.ref (adV u)) us
  | [], _ => .nil
  | u :: us, h => by
    obtain ⟨a, rfl⟩ := h u List.mem_cons_self
    exact .cons (show RelV (.ref a) (.ref a) from rfl) (vals_ad fun y hy => h y (List.mem_cons_of_mem _ hy))
/-- sorted(d), d a dict with tuples of ints as keys -/
def rSortDT : List V → Hp → VK → Prop := fun vs H Q => ∃ (d : Addr) (kvs : List (List Int × V)), vs = [V.ref d] ∧ H d = some (.dT (kvs.map fun p => (ksOf p.1, p.2))) ∧ (2 ≤ kvs.length → ∀ p, p ∈ kvs → p.1 ≠ []) ∧
  ∀ (bs : List (Addr × List Int)) (p : Addr), (bs.map (·.2)).Perm (kvs.map (·.1)) → (∀ q, q ∈ bs → H q.1 = some (.tup (q.2.map V.int))) → (bs.map (·.2)).Pairwise (fun a b => lx b a = false) → H p = none → Q (.ref p) (upd H p (.lst (bs.map fun q => V.ref q.1)))
theorem cr_sortDT {X : Cx} (hc : X.calm = true) : CallR X (.builtin "sorted") rSortDT := by
  intro pins s σ H vs us Q I r h
  obtain ⟨d, kvs, rfl, hd, hne, q⟩ := h
  rw [Vals.ref1 r]
  obtain ⟨z, hs, ks, pr, o, es, ep, ho, hx, hdt, he, hn⟩ := (show ObjOk X.prog X.w H s.heap d (.dT (kvs.map fun p => (ksOf p.1, p.2))) from I.hok d _ hd)
  have l1 : es.size = ks.length := size_of_entries he
  have l2 : kvs.length = ks.length := by simpa using Paired.length pr
  have ent : ∀ (j : Nat) (k : List Key × Addr × Value), ks[j]? = some k → ∃ p, kvs[j]? = some p ∧ H k.2.1 = some (.tup (p.1.map V.int)) := fun j k hk => by
    obtain ⟨p, h1, h2, h3, _⟩ := L2.DX.pget pr hk
    rw [List.getElem?_map] at h1
    obtain ⟨p0, e0, rfl⟩ := Option.map_eq_some_iff.mp h1
    exact ⟨p0, e0, by rw [← ks_kV]; exact h3⟩
  have tup : ∀ v, v ∈ ks.map (fun x => Value.ref x.2.1) → ∃ t p, v = .ref t ∧ p ∈ kvs ∧ H t = some (.tup (p.1.map V.int)) := fun v hv => by
    obtain ⟨k, hk, rfl⟩ := List.mem_map.mp hv
    obtain ⟨j, hj⟩ := List.mem_iff_getElem?.mp hk
    obtain ⟨p, h1, h2⟩ := ent j k hj
    exact ⟨_, p, rfl, List.mem_of_getElem? h1, h2⟩
  have raw : ∀ v, v ∈ ks.map (fun x => Value.ref x.2.1) → TS.TupInts s.heap v (TS.intsOf s.heap v) ∧ (2 ≤ kvs.length → TS.intsOf s.heap v ≠ []) := fun v hv => by
    obtain ⟨t, p, rfl, hp, ht⟩ := tup v hv
    have ti := tupI_raw I (sq_tup ht)
    rw [ti.ints]
    exact ⟨ti, fun h2 => hne h2 p hp⟩
  have cut : ∀ R : List Value → Shared → Prop, (∀ (g : Heap) (tk : Nat), (∀ b o, s.heap.get? b = some o → g.get? b = some o) → R (ks.map fun x => Value.ref x.2.1) { s with heap := g, toks := tk }) → wpAny (model X.prog X.w) X.A.in1 (collect (.ref d)) R X.xe s := fun R k => by
    refine kdu_collect (kdl_raw hs hx hdt) (I.ok.hd hc) ho (by rw [List.length_map] at z; omega) fun g tk acc kp it => ?_
    have ea : acc.toList = ks.map fun x => Value.ref x.2.1 := by
      refine List.ext_getElem? fun j => ?_
      rw [List.getElem?_map]
      by_cases hj : j < ks.length
      · have ja : j < acc.toList.length := by rw [Array.length_toList, it.1, l1]; exact hj
        obtain ⟨en, hen, hv⟩ := it.2 j acc.toList[j] (by rw [← Array.getElem?_toList, List.getElem?_eq_getElem ja])
        have qe := entry_at he j
        rw [hen, List.getElem?_eq_getElem hj] at qe
        rw [List.getElem?_eq_getElem ja, List.getElem?_eq_getElem hj, hv, Option.some.inj qe]
        rfl
      · rw [List.getElem?_eq_none (by rw [Array.length_toList, it.1, l1]; omega), List.getElem?_eq_none (by omega)]
        rfl
    rw [ea]
    exact k g tk kp
  have lz : (ks.map fun x => Value.ref x.2.1).length ≤ sizeLine := by rw [List.length_map] at z ⊢; omega
  refine sorted_via (swo_lx (TS.intsOf s.heap)) lz cut (fun h2 g tk a ha kk => ?_) fun g tk e out s1 s2 kp hno hnew => ?_
  · rw [List.length_map] at h2
    refine tups_sortableO (s := { s with heap := g, toks := tk }) (by rw [List.length_map]; omega) (fun v hm => (raw v hm).1.keeps fun b o e _ => (kk b o e).2) (fun v hm => (raw v hm).2 (by omega)) fun o e => ?_
    cases e.symm.trans ha
    intro c
    exact absurd (Value.type.inj c) (by decide)
  · obtain ⟨n, hnew⟩ := hnew
    have hall : ∀ u, u ∈ out → ∃ t p, u = .ref t ∧ p ∈ kvs ∧ H t = some (.tup (p.1.map V.int)) := fun u hu => tup u (s2.perm.mem_iff.mp hu)
    have keys : (ks.map fun x => Value.ref x.2.1).map (TS.intsOf s.heap) = kvs.map (·.1) := by
      refine List.ext_getElem? fun j => ?_
      rw [List.getElem?_map, List.getElem?_map, List.getElem?_map]
      by_cases hj : j < ks.length
      · obtain ⟨p, h1, h2⟩ := ent j ks[j] (List.getElem?_eq_getElem hj)
        rw [List.getElem?_eq_getElem hj, h1]
        exact congrArg some (tupI_raw I (sq_tup h2)).ints
      · rw [List.getElem?_eq_none (by omega), List.getElem?_eq_none (by omega)]
        rfl
    have e2 : (out.map fun u => (adV u, TS.intsOf s.heap u)).map (·.2) = out.map (TS.intsOf s.heap) := by rw [List.map_map]; rfl
    have e1 : (out.map fun u => (adV u, TS.intsOf s.heap u)).map (fun q => V.ref q.1) = out.map fun u => V.ref (adV u) := by rw [List.map_map]; rfl
    have hne0 : H e = none := I.hok.gone hno
    have J := q (out.map fun u => (adV u, TS.intsOf s.heap u)) e (by rw [e2, ← keys]; exact s2.perm.map _) (fun y hy => by
      obtain ⟨u, hu, rfl⟩ := List.mem_map.mp hy
      obtain ⟨t, p, rfl, _, ht⟩ := hall u hu
      rw [show TS.intsOf s.heap (.ref t) = p.1 from (tupI_raw I (sq_tup ht)).ints]
      exact ht) (by rw [e2, List.pairwise_map]; exact s1) hne0
    rw [e1] at J
    refine ⟨.ref e, _, I.laidN (t' := tk) (o := .lst (out.map fun u => V.ref (adV u))) kp hno hne0 ⟨?_, out, n, vals_ad fun u hu => ?_, hnew⟩, rfl, J⟩
    · rw [List.length_map, s2.perm.length_eq]
      exact lz
    · obtain ⟨t, _, e, _⟩ := hall u hu
      exact ⟨t, e⟩
end Dn
set_option Elab.async false
set_option linter.all false
set_option maxRecDepth 100000
set_option autoImplicit false
set_option maxHeartbeats 4000000
/-! dict([(t, v), ..]), t tuples of ints, no one twice -/
namespace Dn
open PySem PySem.W PySem.Calls L2 Evl PySem.Spec PyProof.Rows SrL
section
variable {Kk : Type} [DecidableEq Kk]
theorem storedAll_new : ∀ (ps acc : List (Kk × Addr × Value)), ((acc ++ ps).map (·.1)).Nodup → storedAllH acc ps = acc ++ ps
  | [], acc, _ => by simp [storedAllH]
  | p :: ps, acc, h => by
    have hno : atKey acc p.1 = none := by
      unfold atKey
      rw [Option.map_eq_none_iff, List.find?_eq_none]
      intro x hx
      simp only [decide_eq_true_eq]
      intro e
      rw [List.map_append, List.nodup_append] at h
      exact h.2.2 x.1 (List.mem_map.mpr ⟨x, hx, rfl⟩) p.1 (by simp) e
    have e : storedAllH acc (p :: ps) = storedAllH (acc ++ [p]) ps := by
      show ps.foldl _ (storedH acc p.1 p.2.1 p.2.2) = _
      rw [storedH_new hno]
      rfl
    rw [e, storedAll_new ps (acc ++ [p]) (by simpa using h)]
    simp
end
theorem pairs_zip {α β γ δ : Type} {R : γ → δ → Prop} {f : α → γ} {g : α × β → δ} : ∀ {ts : List α} {vs : List β}, vs.length = ts.length → (∀ (j : Nat) (t : α) (v : β), ts[j]? = some t → vs[j]? = some v → R (f t) (g (t, v))) → Paired R (ts.map f) ((ts.zip vs).map g)
  | [], [], _, _ => .nil
  | [], _ :: _, h, _ => by simp at h
  | _ :: _, [], h, _ => by simp at h
  | t :: ts, v :: vs, h, k => .cons (k 0 t v rfl rfl) (pairs_zip (by simpa using h) fun j t' v' e1 e2 => k (j + 1) t' v' (by simpa using e1) (by simpa using e2))
def rDictT : List V → Hp → VK → Prop := fun xs H Q => ∃ (l : Addr) (ts : List (Addr × Addr × List Int × V)), xs = [V.ref l] ∧ H l = some (.lst (ts.map fun t => V.ref t.1)) ∧
  (∀ t, t ∈ ts → H t.1 = some (.tup [.ref t.2.1, t.2.2.2]) ∧ H t.2.1 = some (.tup (t.2.2.1.map V.int))) ∧ (ts.map fun t => t.2.2.1).Nodup ∧
  ∀ p, H p = none → Q (.ref p) (upd H p (.dT (ts.map fun t => (ksOf t.2.2.1, t.2.2.2))))
theorem cr_dictT {X : Cx} (hc : X.calm = true) (hu : X.A.units + 64 < cLine) : CallR X (.type "dict") rDictT := by
  intro pins s σ H xs us Q I r h
  obtain ⟨l, ts, rfl, hl, ht, nd, q⟩ := h
  rw [Vals.ref1 r]
  obtain ⟨hz, its, n, rv, hlo⟩ := (show ObjOk X.prog X.w H s.heap l (.lst (ts.map fun t => V.ref t.1)) from I.hok l _ hl)
  rw [List.length_map] at hz
  have hits : its = ts.map fun t => Value.ref t.1 := by
    have : ∀ (ts : List (Addr × Addr × List Int × V)) (its : List Value), Vals (ts.map fun t => V.ref t.1) its → its = ts.map fun t => Value.ref t.1 := by
      intro ts
      induction ts with
      | nil => intro its r; cases r; rfl
      | cons t ts ih =>
        intro its r
        cases r with
        | cons r1 r2 =>
          cases r1
          rw [ih _ r2]
          rfl
    exact this ts its rv
  -- the values of the pairs
  have val : ∀ t, t ∈ ts → ∃ v : Value, RelV t.2.2.2 v ∧ IsTup s.heap t.1 #[Value.ref t.2.1, v] := fun t hm => by
    obtain ⟨_, w, rw_, it⟩ := (show ObjOk X.prog X.w H s.heap t.1 (.tup [.ref t.2.1, t.2.2.2]) from I.hok _ _ (ht t hm).1)
    obtain ⟨u1, u2, rfl, r1, r2⟩ := vals2 rw_
    obtain rfl : u1 = Value.ref t.2.1 := r1
    exact ⟨u2, r2, it⟩
  obtain ⟨vs, lv, hv⟩ : ∃ vs : List Value, vs.length = ts.length ∧ ∀ (j : Nat) (t : Addr × Addr × List Int × V), ts[j]? = some t → ∃ v, vs[j]? = some v ∧ RelV t.2.2.2 v ∧ IsTup s.heap t.1 #[Value.ref t.2.1, v] := by
    have : ∀ ts : List (Addr × Addr × List Int × V), (∀ t, t ∈ ts → ∃ v : Value, RelV t.2.2.2 v ∧ IsTup s.heap t.1 #[Value.ref t.2.1, v]) → ∃ vs : List Value, vs.length = ts.length ∧ ∀ (j : Nat) (t : Addr × Addr × List Int × V), ts[j]? = some t → ∃ v, vs[j]? = some v ∧ RelV t.2.2.2 v ∧ IsTup s.heap t.1 #[Value.ref t.2.1, v] := by
      intro ts
      induction ts with
      | nil => exact fun _ => ⟨[], rfl, by simp⟩
      | cons t ts ih =>
        intro hh
        obtain ⟨v, h1, h2⟩ := hh t (by simp)
        obtain ⟨vs, l1, h3⟩ := ih fun x hx => hh x (by simp [hx])
        refine ⟨v :: vs, by simp [l1], fun j x e => ?_⟩
        cases j with
        | zero => simp at e; subst e; exact ⟨v, rfl, h1, h2⟩
        | succ j => simpa using h3 j x (by simpa using e)
    exact this ts val
  let ps : List (Value × Value) := (ts.map fun t => Value.ref t.2.1).zip vs
  let Ts : Nat → Addr := fun j => ((ts[j]?).map (·.1)).getD 0
  have lps : ps.length = ts.length := by simp [ps, lv]
  have pat : ∀ (j : Nat) (k v : Value), ps[j]? = some (k, v) → ∃ t, ts[j]? = some t ∧ k = .ref t.2.1 ∧ vs[j]? = some v ∧ RelV t.2.2.2 v ∧ IsTup s.heap t.1 #[Value.ref t.2.1, v] := fun j k v e => by
    obtain ⟨e1, e2⟩ := List.getElem?_zip_eq_some.mp e
    rw [List.getElem?_map] at e1
    obtain ⟨t, e3, rfl⟩ := Option.map_eq_some_iff.mp e1
    obtain ⟨v', e4, r4, i4⟩ := hv j t e3
    rw [e2] at e4
    cases e4
    exact ⟨t, e3, rfl, e2, r4, i4⟩
  have ok : PlainSeq "list" s.heap l its.toArray ∧ PairItems s.heap its.toArray Ts ps := by
    refine ⟨⟨_, n, hlo, rfl, rfl, rfl⟩, by rw [List.size_toArray, lps, hits, List.length_map], fun j k v e => ?_⟩
    obtain ⟨t, e3, rfl, e2, r4, i4⟩ := pat j k v e
    have eT : Ts j = t.1 := by show ((ts[j]?).map (·.1)).getD 0 = _; rw [e3]; rfl
    rw [eT]
    refine ⟨?_, ?_⟩
    · rw [List.getElem?_toArray, hits, List.getElem?_map, e3]
      rfl
    · exact .inl i4
  let xs : List (List Key × Addr × Value) := (ts.zip vs).map fun z => (ksOf z.1.2.2.1, z.1.2.1, z.2)
  have lxs : xs.length = ts.length := by simp [xs, lv]
  have xat : ∀ (j : Nat) (x : List Key × Addr × Value), xs[j]? = some x → ∃ t v, ts[j]? = some t ∧ vs[j]? = some v ∧ x = (ksOf t.2.2.1, t.2.1, v) := fun j x e => by
    rw [List.getElem?_map] at e
    obtain ⟨⟨t, v⟩, e1, rfl⟩ := Option.map_eq_some_iff.mp e
    obtain ⟨e2, e3⟩ := List.getElem?_zip_eq_some.mp e1
    exact ⟨t, v, e2, e3, rfl⟩
  have hkey : ∀ x, x ∈ xs → (tupleKind (mixKind X.prog X.w)).is s.heap x.1 x.2.1 := fun x hx => by
    obtain ⟨j, hj⟩ := List.mem_iff_getElem?.mp hx
    obtain ⟨t, v, e2, e3, rfl⟩ := xat j x hj
    exact key_of I.hok (by rw [ks_kV]; exact (ht t (List.mem_of_getElem? e2)).2)
  have knd : (xs.map (·.1)).Nodup := by
    have e : xs.map (·.1) = (ts.map fun t => t.2.2.1).map ksOf := by
      refine List.ext_getElem? fun j => ?_
      simp only [xs, List.getElem?_map]
      by_cases hj : j < ts.length
      · have jv : j < vs.length := by omega
        have jz : (ts.zip vs)[j]? = some (ts[j], vs[j]) := List.getElem?_zip_eq_some.mpr ⟨List.getElem?_eq_getElem hj, List.getElem?_eq_getElem jv⟩
        rw [jz, List.getElem?_eq_getElem hj]
        rfl
      · rw [List.getElem?_eq_none (by simp; omega), List.getElem?_eq_none (by omega)]
        rfl
    rw [e]
    exact List.Pairwise.map _ (fun a b ne z => ne (ks_inj z)) nd
  refine call_dict_pairsH (knd := tupleKind (mixKind X.prog X.w)) (ps := xs) (PairArg.list l its.toArray Ts ps) (I.ok.hd hc) (show X.A.units + 1 + 1 < cLine by omega) ok ⟨by rw [lxs, lps], fun i key v e => ?_⟩ (fun g kg x hx => ?_) (by rw [lps]; exact hz) fun g tk hd kg => ?_
  · obtain ⟨t, e3, rfl, e2, _, _⟩ := pat i key v e
    refine ⟨ksOf t.2.2.1, t.2.1, ?_, rfl⟩
    have jz : (ts.zip vs)[i]? = some (t, v) := List.getElem?_zip_eq_some.mpr ⟨e3, e2⟩
    rw [List.getElem?_map, jz]
    rfl
  · obtain ⟨ob, items, m, h1, h2, h3, h4⟩ := (show IsTupleKey (mixKind X.prog X.w) s.heap x.1 x.2.1 from hkey x hx)
    exact ⟨ob, items, m, kg _ _ (Nat.ne_of_lt (Heap.lt_size h1)) (by simp) h1, h2, h3, h4⟩
  · have kall : ∀ b o, s.heap.get? b = some o → g.get? b = some o := fun b o e => kg b o (by simp) e
    have hst : storedAllH [] xs = xs := by
      have := storedAll_new xs [] (by simpa using knd)
      simpa using this
    rw [hst] at hd
    have hn := I.hok.fresh (Nat.le_refl s.heap.objs.size)
    obtain ⟨o, es, ep, ho, h2, h3, h4, _, h5⟩ := hd
    refine ⟨.ref s.heap.objs.size, _, I.laid (t' := tk) (o := .dT (ts.map fun t => (ksOf t.2.2.1, t.2.2.2))) kall (Nat.le_refl _) ⟨by rw [List.length_map]; exact hz, beq_eq_false_iff_ne.mpr (Ne.symm (Nat.ne_of_lt I.big)), xs, ?_, o, es, ep, ho, h2, h3, h4, h5⟩, rfl, q _ hn⟩
    refine pairs_zip (by rw [lv]) fun j t v e2 e3 => ⟨rfl, ?_, ?_⟩
    · have hk := (ht t (List.mem_of_getElem? e2)).2
      rw [upd_ne (fun z => by rw [show t.2.1 = s.heap.objs.size from z, hn] at hk; cases hk)]
      show H t.2.1 = some (.tup ((ksOf t.2.2.1).map kV))
      rw [ks_kV]
      exact hk
    · obtain ⟨v', e4, r4, _⟩ := hv j t e2
      rw [e3] at e4
      cases e4
      exact r4
end Dn
set_option Elab.async false
set_option linter.all false
set_option maxRecDepth 100000
set_option autoImplicit false
set_option maxHeartbeats 4000000
/-! dicts with tuples of ints as keys, that a frame owns -/
namespace Dn
open PySem L2 Evl PySem.Spec PyProof.Rows SrL
def valT (kvs : List (List Int × D)) (k : List Int) : Option D := (kvs.find? fun kv => decide (kv.1 = k)).map (·.2)
def putT (kvs : List (List Int × D)) (k : List Int) (d : D) : List (List Int × D) :=
  if (kvs.any fun kv => decide (kv.1 = k)) = true then kvs.map (fun kv => if kv.1 = k then (kv.1, d) else kv) else kvs ++ [(k, d)]
abbrev KtRp (K : PySem.W.Frag) (G : Hp) (kvs : List (List Int × D)) (kws : List (List Key × V)) : Prop := Paired (fun (p : List Int × D) (q : List Key × V) => p.1.map Sum.inl = q.1 ∧ Rp K G q.2 p.2) kvs kws
theorem ks_iff {a b : List Int} {k : List Key} (h : a.map Sum.inl = k) : a = b ↔ k = ksOf b := ⟨fun e => by rw [← h, e]; rfl, fun e => ks_inj (h.trans e)⟩
theorem KtRp.len {K : PySem.W.Frag} {G : Hp} {kvs : List (List Int × D)} {kws : List (List Key × V)} (h : KtRp K G kvs kws) : kvs.length = kws.length := Paired.length h
theorem KtRp.val {K : PySem.W.Frag} {G : Hp} {kvs : List (List Int × D)} {kws : List (List Key × V)} (h : KtRp K G kvs kws) (k : List Int) : (valT kvs k = none ∧ valV kws (ksOf k) = none) ∨ ∃ d v, valT kvs k = some d ∧ valV kws (ksOf k) = some v ∧ Rp K G v d := by
  induction h with
  | nil => exact .inl ⟨rfl, rfl⟩
  | @cons p q ps qs r t ih =>
    by_cases z : p.1 = k
    · refine .inr ⟨p.2, q.2, by simp [valT, List.find?_cons, z], valV_pos ((ks_iff r.1).1 z), r.2⟩
    · have z2 : ¬ q.1 = ksOf k := fun w => z ((ks_iff r.1).2 w)
      rw [valV_neg z2]
      have : valT (p :: ps) k = valT ps k := by simp [valT, List.find?_cons, z]
      rw [this]
      exact ih
theorem KtRp.any {K : PySem.W.Frag} {G : Hp} {kvs : List (List Int × D)} {kws : List (List Key × V)} (h : KtRp K G kvs kws) (k : List Int) : (kvs.any fun kv => decide (kv.1 = k)) = (kws.any fun kv => decide (kv.1 = ksOf k)) := by
  induction h with
  | nil => rfl
  | @cons p q ps qs r t ih => simp only [List.any_cons, ih, ks_iff r.1]
theorem KtRp.rep {K : PySem.W.Frag} {G : Hp} {kvs : List (List Int × D)} {kws : List (List Key × V)} (h : KtRp K G kvs kws) (k : List Int) {v : V} {d : D} (r : Rp K G v d) : KtRp K G (kvs.map fun kv => if kv.1 = k then (kv.1, d) else kv) (kws.map fun kv => if kv.1 = ksOf k then (kv.1, v) else kv) := by
  induction h with
  | nil => exact .nil
  | @cons p q ps qs s t ih =>
    refine .cons ?_ ih
    dsimp only
    by_cases z : p.1 = k
    · rw [if_pos z, if_pos ((ks_iff s.1).1 z)]
      exact ⟨s.1, r⟩
    · rw [if_neg z, if_neg (fun w => z ((ks_iff s.1).2 w))]
      exact s
theorem KtRp.add {K : PySem.W.Frag} {G : Hp} {kvs : List (List Int × D)} {kws : List (List Key × V)} (h : KtRp K G kvs kws) (k : List Int) {v : V} {d : D} (r : Rp K G v d) : KtRp K G (kvs ++ [(k, d)]) (kws ++ [(ksOf k, v)]) := by
  induction h with
  | nil => exact .cons ⟨rfl, r⟩ .nil
  | cons s t ih => exact .cons s ih
theorem KtRp.put {K : PySem.W.Frag} {G : Hp} {kvs : List (List Int × D)} {kws : List (List Key × V)} (h : KtRp K G kvs kws) (k : List Int) {v : V} {d : D} (r : Rp K G v d) : KtRp K G (putT kvs k d) (putK kws (ksOf k) v) := by
  unfold putT putK
  rw [h.any k]
  split
  · exact h.rep k r
  · exact h.add k r
/-- what stands in slot i, if it is such a dict -/
def atT (ρ : Env) (i : Nat) : Option (List (List Int × D)) := match ρ[i]? with
  | some (some (.ow (.dtu kvs))) => some kvs
  | _ => none
theorem atT_some {ρ : Env} {i : Nat} {kvs : List (List Int × D)} (h : atT ρ i = some kvs) : ρ[i]? = some (some (SV.ow (.dtu kvs))) := by
  unfold atT at h
  split at h
  · cases h; assumption
  · cases h
theorem RS.atT {K : PySem.W.Frag} {T : Addr → Prop} {ρ : Env} {σ : L2.St} {H : Hp} {i : Nat} {kvs : List (List Int × D)} (r : RS K T ρ σ H) (h : Dn.atT ρ i = some kvs) : ∃ q kws, ρ[i]? = some (some (SV.ow (.dtu kvs))) ∧ σ[i]? = some (some (V.ref q)) ∧ H q = some (.dT kws) ∧ KtRp K (hide (Hd T ρ σ) H) kvs kws := by
  have hm := atT_some h
  obtain ⟨q, o, h1, h2, h3⟩ := r.ow i _ hm
  cases o with
  | dT kws => exact ⟨q, kws, hm, h1, h2, h3⟩
  | _ => exact h3.elim
theorem tup_key {K : PySem.W.Frag} {O : Addr → Prop} {H : Hp} {v : V} {ns : List Int} (r : Rp K (hide O H) v (.tuple (ns.map PyData.int))) : ∃ b, v = .ref b ∧ H b = some (.tup ((ksOf ns).map kV)) := by
  cases r with
  | tup hp rr =>
    obtain rfl := rr.of_ints
    exact ⟨_, rfl, by rw [ks_kV]; exact at_of hp⟩
section
variable {X : Cx} {a b c e : Expr} {fa fb fc : DE} {pos p : Pos} {es : List Expr} {x y : Str}
/-- k in x, k not in x -/
def dInT (neg : Bool) (i : Nat) (fb : DE) : DE := fun ρ Q => fb ρ fun y ρ1 => ∃ kvs k, atT ρ1 i = some kvs ∧ y = .tuple (k.map PyData.int) ∧ Q (.bool (if neg then !(valT kvs k).isSome else (valT kvs k).isSome)) ρ1
theorem je_inT {i : Nat} {px : Pos} (hu : X.A.units + 1 < cLine) (hN : X.N[i]? = some x) (hv : Vis X.env.scope x) (hb : JE X b fb) (hm : behindInMarks .In (.Name x px) = false) (hd : (x == ("__debug__" : Str)) = false := by decide) (hcd : (x == ("__classdict__" : Str)) = false := by decide) :
    JE X (.Compare b [.In] [.Name x px] pos) (dInT false i fb) := by
  obtain ⟨tb, pb, kb⟩ := hb.ex
  refine ⟨_, pe_cmp (pc_din hu pb (pe_var hN hv hd hcd)) hm, fun T ρ σ H QD Q r h q => kb T ρ σ H _ _ r h fun y ρ1 v H1 r1 p1 v1 h => ?_⟩
  obtain ⟨kvs, k, h1, rfl, h3⟩ := h
  obtain ⟨l', kws', _, hl', ho', hr'⟩ := r1.atT h1
  obtain ⟨kb, rfl, hkb⟩ := tup_key v1
  refine ⟨_, hl', l', _, rfl, DGet.t ho' hkb, q _ _ _ _ r1 p1 (.bl _) ?_⟩
  rcases hr'.val k with ⟨z, z2⟩ | ⟨d', u, z, z2, z3⟩ <;> (rw [z2]; rw [z] at h3; exact h3)
theorem je_notinT {i : Nat} {px : Pos} (hu : X.A.units + 1 < cLine) (hN : X.N[i]? = some x) (hv : Vis X.env.scope x) (hb : JE X b fb) (hm : behindInMarks .NotIn (.Name x px) = false) (hd : (x == ("__debug__" : Str)) = false := by decide) (hcd : (x == ("__classdict__" : Str)) = false := by decide) :
    JE X (.Compare b [.NotIn] [.Name x px] pos) (dInT true i fb) := by
  obtain ⟨tb, pb, kb⟩ := hb.ex
  refine ⟨_, pe_cmp (pc_dnotin hu pb (pe_var hN hv hd hcd)) hm, fun T ρ σ H QD Q r h q => kb T ρ σ H _ _ r h fun y ρ1 v H1 r1 p1 v1 h => ?_⟩
  obtain ⟨kvs, k, h1, rfl, h3⟩ := h
  obtain ⟨l', kws', _, hl', ho', hr'⟩ := r1.atT h1
  obtain ⟨kb, rfl, hkb⟩ := tup_key v1
  refine ⟨_, hl', l', _, rfl, DGet.t ho' hkb, q _ _ _ _ r1 p1 (.bl _) ?_⟩
  rcases hr'.val k with ⟨z, z2⟩ | ⟨d', u, z, z2, z3⟩ <;> (rw [z2]; rw [z] at h3; exact h3)
theorem jt_inT {i : Nat} {px : Pos} (hu : X.A.units + 1 < cLine) (hN : X.N[i]? = some x) (hv : Vis X.env.scope x) (hb : JE X b fb) (hm : behindInMarks .In (.Name x px) = false) (hd : (x == ("__debug__" : Str)) = false := by decide) (hcd : (x == ("__classdict__" : Str)) = false := by decide) :
    JT X (.Compare b [.In] [.Name x px] pos) (dTst (dInT false i fb)) := by
  obtain ⟨tb, pb, kb⟩ := hb.ex
  refine ⟨_, pt_cmp (pc_din hu pb (pe_var hN hv hd hcd)) hm, fun T ρ σ H QD Q r h q => kb T ρ σ H _ _ r h fun y ρ1 v H1 r1 p1 v1 h => ?_⟩
  obtain ⟨kvs, k, h1, rfl, h3⟩ := h
  obtain ⟨l', kws', _, hl', ho', hr'⟩ := r1.atT h1
  obtain ⟨kb, rfl, hkb⟩ := tup_key v1
  refine ⟨_, hl', l', _, rfl, DGet.t ho' hkb, _, rfl, q _ _ _ r1 p1 ?_⟩
  rcases hr'.val k with ⟨z, z2⟩ | ⟨d', u, z, z2, z3⟩ <;> (rw [z2]; rw [z] at h3; exact h3)
theorem jt_notinT {i : Nat} {px : Pos} (hu : X.A.units + 1 < cLine) (hN : X.N[i]? = some x) (hv : Vis X.env.scope x) (hb : JE X b fb) (hm : behindInMarks .NotIn (.Name x px) = false) (hd : (x == ("__debug__" : Str)) = false := by decide) (hcd : (x == ("__classdict__" : Str)) = false := by decide) :
    JT X (.Compare b [.NotIn] [.Name x px] pos) (dTst (dInT true i fb)) := by
  obtain ⟨tb, pb, kb⟩ := hb.ex
  refine ⟨_, pt_cmp (pc_dnotin hu pb (pe_var hN hv hd hcd)) hm, fun T ρ σ H QD Q r h q => kb T ρ σ H _ _ r h fun y ρ1 v H1 r1 p1 v1 h => ?_⟩
  obtain ⟨kvs, k, h1, rfl, h3⟩ := h
  obtain ⟨l', kws', _, hl', ho', hr'⟩ := r1.atT h1
  obtain ⟨kb, rfl, hkb⟩ := tup_key v1
  refine ⟨_, hl', l', _, rfl, DGet.t ho' hkb, _, rfl, q _ _ _ r1 p1 ?_⟩
  rcases hr'.val k with ⟨z, z2⟩ | ⟨d', u, z, z2, z3⟩ <;> (rw [z2]; rw [z] at h3; exact h3)
/-- x[k] = e -/
def sPutT (i : Nat) (fi fe : DE) : DS := fun E ρ => fe ρ fun d ρ1 => (atT ρ1 i).isSome = true ∧ fi ρ1 fun y ρ2 => ∃ kvs k, atT ρ2 i = some kvs ∧ y = .tuple (k.map PyData.int) ∧ kvs.length < sizeLine ∧ E.nx (ρ2.set i (some (.ow (.dtu (putT kvs k d)))))
theorem js_putT {i : Nat} {px ps : Pos} {f1 f2 : DE} (hu : X.A.units + 1 < cLine) (hN : X.N[i]? = some x) (hv : Vis X.env.scope x) (hi : JE X b f1) (he : JE X e f2) (hd : (x == ("__debug__" : Str)) = false := by decide) (hcd : (x == ("__classdict__" : Str)) = false := by decide)
    (hs : swapsWith e (some (.Subscript (.Name x px) b ps)) pos.line X.env = pure false := by rfl) :
    JS X (.Assign [.Subscript (.Name x px) b ps] e pos) (sPutT i f1 f2) := by
  obtain ⟨t1, p1, k1⟩ := hi.ex
  obtain ⟨t2, p2, k2⟩ := he.ex
  refine ⟨_, ps_dput hu (pe_var hN hv hd hcd) p1 p2 hs, fun T ρ σ H E D r h k => k2 T ρ σ H _ _ r h fun d ρ1 v H1 r1 q1 v1 h => ?_⟩
  obtain ⟨h0, h⟩ := h
  obtain ⟨ds0, h0⟩ := Option.isSome_iff_exists.mp h0
  obtain ⟨l, kws, _, hl, _, _⟩ := r1.atT h0
  refine ⟨_, hl, k1 T ρ1 σ H1 _ _ r1 h fun kk ρ2 w H2 r2 q2 v2 h => ?_⟩
  obtain ⟨kvs, ky, h2, rfl, h3, h4⟩ := h
  obtain ⟨l', kws', hm', hl', ho', hr'⟩ := r2.atT h2
  rw [hl] at hl'; cases hl'
  obtain ⟨kb, rfl, hkb⟩ := tup_key v2
  have hp : RpO X.K (hide (Hd T ρ2 σ) H2) (.dtu (putT kvs ky d)) (.dT (putK kws' (ksOf ky) v)) := hr'.put ky (v1.mono q2.fz)
  have r3 := r2.write hm' hl hp (fun _ _ z => nomatch z)
  exact ⟨l, _, rfl, DPut.t ho' hkb (by rw [← hr'.len]; exact h3), k.nx _ _ _ r3 ((q1.trans q2).trans (.write hm' hl)) h4⟩
/-- sorted(x) -/
def lSortDT (i : Nat) : DL := fun ρ Q => ∃ kvs, atT ρ i = some kvs ∧ (2 ≤ kvs.length → ∀ p, p ∈ kvs → p.1 ≠ []) ∧ ∀ L : List (List Int), L.Perm (kvs.map (·.1)) → (L.Pairwise fun a b => lx b a = false) → Q (L.map tI0) ρ
theorem kt_split {K : PySem.W.Frag} {G : Hp} : ∀ {kvs : List (List Int × D)} {kws : List (List Key × V)}, KtRp K G kvs kws → ∃ ks : List (List Int × V), kws = ks.map (fun p => (ksOf p.1, p.2)) ∧ ks.map (·.1) = kvs.map (·.1)
  | _, _, .nil => ⟨[], rfl, rfl⟩
  | p :: _, q :: _, .cons r t => by
    obtain ⟨ks, rfl, e⟩ := kt_split t
    refine ⟨(p.1, q.2) :: ks, ?_, by rw [List.map_cons, List.map_cons, e]⟩
    rw [List.map_cons]
    congr 1
    exact Prod.ext r.1.symm rfl
theorem jl_sortDT {i : Nat} {px : Pos} (hc : X.calm = true) (hm : X.mg "sorted" = none) (hN : X.N[i]? = some x) (hv : Vis X.env.scope x) (hg : Gl X "sorted" := by rfl) (hd : (x == ("__debug__" : Str)) = false := by decide) (hcd : (x == ("__classdict__" : Str)) = false := by decide)
    (he : starEach [Expr.Name x px] X.env = (false, eval (Expr.Name x px) X.env) :: starEach [] X.env := by rfl) : JL X (.Call (.Name "sorted" p) [.Name x px] [] pos) (lSortDT i) := by
  refine ⟨_, pe_callB (cr_sortDT hc) hg hm (by decide +kernel) (pa_cons (pe_var hN hv hd hcd) pa_nil he) (by decide) (by decide) he (by rfl), fun T ρ σ H QD Q r h q => ?_⟩
  obtain ⟨kvs, h1, hne, h⟩ := h
  obtain ⟨l, kws, _, hl, ho, hr⟩ := r.atT h1
  obtain ⟨ks, rfl, e⟩ := kt_split hr
  have el : ks.length = kvs.length := by have := congrArg List.length e; simpa using this
  refine ⟨_, hl, l, ks, rfl, ho, fun h2 p hp => ?_, fun bs p hp hb hs hn => ?_⟩
  · have : p.1 ∈ kvs.map (·.1) := by rw [← e]; exact List.mem_map.mpr ⟨p, hp, rfl⟩
    obtain ⟨p', hp', e'⟩ := List.mem_map.mp this
    rw [← e']
    exact hne (by omega) p' hp'
  · have vis : ∀ q, q ∈ bs → hide (Hd (plus T p) ρ σ) (upd H p (.lst (bs.map fun q => V.ref q.1))) q.1 = some (.tup (q.2.map V.int)) := fun q hq => by
      have hH := hb q hq
      have ne : q.1 ≠ p := fun z => by rw [z, hn] at hH; cases hH
      refine hide_some.2 ⟨?_, by rw [upd_ne ne]; exact hH⟩
      rintro ((w | w) | w)
      · exact ne w
      · exact (r.dom _ w).2 _ hH
      · exact (r.hdLv (.inr w)).2 _ hH
    have rr : RpAll X.K (hide (Hd (plus T p) ρ σ) (upd H p (.lst (bs.map fun q => V.ref q.1)))) (bs.map fun q => V.ref q.1) ((bs.map (·.2)).map tI0) := by
      clear hp hs hb
      have : ∀ cs : List (Addr × List Int), (∀ q, q ∈ cs → q ∈ bs) → RpAll X.K (hide (Hd (plus T p) ρ σ) (upd H p (.lst (bs.map fun q => V.ref q.1)))) (cs.map fun q => V.ref q.1) ((cs.map (·.2)).map tI0) := by
        intro cs
        induction cs with
        | nil => exact fun _ => .nil
        | cons c cs ih => exact fun hh => .cons (.tup (vis c (hh c (by simp))) (RpAll.ints c.2)) (ih fun q hq => hh q (by simp [hq]))
      exact this bs fun _ h => h
    exact q _ _ _ _ _ hn upd_same (r.laid hn) rr (.grow (Ex.new hn)) (h _ (by rw [← e]; exact hp) hs)
end
end Dn
set_option Elab.async false
set_option linter.all false
set_option maxRecDepth 100000
set_option autoImplicit false
set_option maxHeartbeats 4000000
/-! {k: v} and dict([..]) with tuples of ints as keys; sorted of tuples once more; xs.pop() -/
namespace Dn
open PySem L2 Evl PySem.Spec PyProof.Rows SrL SrtO
section
variable {X : Cx} {a b c e : Expr} {fa fb fc : DE} {pos p : Pos} {es : List Expr} {x y : Str}
def rSortL2 (K : PySem.W.Frag) : List V → Hp → VK → Prop := fun vs H Q => ∃ (a : Addr) (xs : List V), vs = [V.ref a] ∧ SqL K H a xs ∧ (∀ x ∈ xs, ∃ ns, TupI K H x ns ∧ (2 ≤ xs.length → ns ≠ [])) ∧
  ∀ (ys : List V) (p : Addr), ys.Perm xs → ys.Pairwise (fun x y => ∀ n m, TupI K H x n → TupI K H y m → lx m n = false) → H p = none → Q (.ref p) (upd H p (.lst ys))
theorem cr_sortL2 : CallR X (.builtin "sorted") (rSortL2 X.K) := by
  intro pins s σ H vs us Q I r h
  obtain ⟨a, xs, rfl, hs, hx, q⟩ := h
  obtain ⟨its, rv, hl, hz⟩ := I.list hs
  rw [Vals.ref1 r]
  obtain ⟨e1, e2⟩ := bkV_refs rv fun x m => by
    obtain ⟨ns, ⟨t, e, _⟩, _⟩ := hx x m
    exact ⟨t, e⟩
  have tup : ∀ v, v ∈ its → TS.TupInts s.heap v (TS.intsOf s.heap v) ∧ (2 ≤ xs.length → TS.intsOf s.heap v ≠ []) := fun v hv => by
    obtain ⟨t, rfl⟩ := e2 v hv
    have hm : V.ref t ∈ xs := by
      rw [e1]
      exact List.mem_map.mpr ⟨_, hv, rfl⟩
    obtain ⟨ns, ⟨t', e, ht⟩, hn⟩ := hx _ hm
    cases e
    have ti := tupI_raw I ht
    rw [ti.ints]
    exact ⟨ti, hn⟩
  refine SrtO.sorted_ord (swo_lx (TS.intsOf s.heap)) hl.isList (by rw [← rv.length]; exact hz) (fun h2 h₁ a' ha kk => ?_) fun out hs2 hb => ?_
  · refine tups_sortableO (s := { s with heap := h₁ }) (by omega) (fun v hm => (tup v hm).1.keeps fun b o e _ => (kk b o e).2) (fun v hm => (tup v hm).2 (by rw [rv.length]; exact h2)) fun o e => ?_
    have e' : some o = some (seqObj "list" its.toArray 0) := e.symm.trans ha
    cases e'
    intro c
    exact absurd (Value.type.inj c) (by decide)
  · obtain ⟨ep, he'⟩ := PyProof.Rows.sortedAll_at s.heap its out.toArray
    have h3 : ∀ u ∈ out, ∃ a, u = Value.ref a := fun u hu => e2 u (hb.perm.mem_iff.mp hu)
    have hp : (out.map bkV).Perm xs := by
      rw [e1]
      exact hb.perm.map bkV
    have hlen : (out.map bkV).length ≤ sizeLine := by
      rw [hp.length_eq]
      exact hz
    refine ⟨.ref _, upd H (s.heap.objs.size + 1) (.lst (out.map bkV)), I.laid (t' := s.toks) (fun _ _ => PyProof.Rows.sortedAll_old) (Nat.le_succ _) ⟨hlen, out, ep, bkV_vals h3, he'⟩, rfl, q _ _ hp ?_ (I.hok.fresh (Nat.le_succ _))⟩
    rw [List.pairwise_map]
    refine List.Pairwise.imp (fun {u v} huv n m hn hm => ?_) hs2
    obtain ⟨t, et, ht⟩ := hn
    obtain ⟨t', et', ht'⟩ := hm
    have eu := bkV_ref et
    have ev := bkV_ref et'
    have i1 : TS.intsOf s.heap u = n := by
      rw [eu]
      exact (tupI_raw I ht).ints
    have i2 : TS.intsOf s.heap v = m := by
      rw [ev]
      exact (tupI_raw I ht').ints
    rw [← i1, ← i2]
    exact huv
/-- sorted(l), l tuples of ints; one alone may be empty -/
def lSortT2 (fa : DE) : DL := fun ρ Q => fa ρ fun z ρ1 => ∃ L : List (List Int), z = .list (L.map tI0) ∧ (2 ≤ L.length → ∀ l, l ∈ L → l ≠ []) ∧ ∀ L' : List (List Int), L'.Perm L → (L'.Pairwise fun a b => lx b a = false) → Q (L'.map tI0) ρ1
theorem jl_sortT2 (hm : X.mg "sorted" = none) (ha : JE X a fa) (hg : Gl X "sorted" := by rfl) (he : starEach [a] X.env = (false, eval a X.env) :: starEach [] X.env := by rfl) : JL X (.Call (.Name "sorted" p) [a] [] pos) (lSortT2 fa) := by
  obtain ⟨ta, pa, ka⟩ := ha.ex
  refine ⟨_, pe_callB cr_sortL2 hg hm (by decide +kernel) (pa_cons pa pa_nil he) (by decide) (by decide) he (by rfl), fun T ρ σ H QD Q r h q => ka T ρ σ H _ _ r h fun d ρ1 v H1 r1 p1 v1 h => ?_⟩
  obtain ⟨L, rfl, hne, h⟩ := h
  cases v1 with
  | lst hp rr =>
    have ll := rr.length
    rw [List.length_map] at ll
    refine ⟨_, _, rfl, .inl (.inl (at_of hp)), fun x hx => ?_, fun ys l h1 h2 hl => ?_⟩
    · obtain ⟨i, hi, e⟩ := List.mem_iff_getElem.mp hx
      obtain ⟨d, e2, r2⟩ := rr.get' (by rw [List.getElem?_eq_getElem hi, e])
      rw [List.getElem?_map] at e2
      obtain ⟨b, e3, rfl⟩ := Option.map_eq_some_iff.mp e2
      exact ⟨b, tupI_rp r2, fun z => hne (by omega) b (List.mem_of_getElem? e3)⟩
    · obtain ⟨ds', pm, r2⟩ := RpAll.perm h1 rr
      obtain ⟨L', rfl, pm2⟩ := perm_map pm rfl
      exact q _ _ _ _ _ (none_back p1 hl) upd_same (r1.laid hl) (r2.mono (hd_laid hl)) (p1.trans (.grow (Ex.new hl))) (h L' pm2 (pw_rp r2 h2))
/-- xs.pop() -/
def dPop (i : Nat) : DE := fun ρ Q => ∃ ds d, atO ρ i = some (ds ++ [d]) ∧ Q d (setO ρ i ds)
theorem je_pop {i : Nat} {px pa pc : Pos} (hN : X.N[i]? = some x) (hv : Vis X.env.scope x) (hd : (x == ("__debug__" : Str)) = false := by decide) (hcd : (x == ("__classdict__" : Str)) = false := by decide)
    (hbase : attributeBase (.Name x px) "pop" X.env (eval (.Name x px) X.env) = eval (.Name x px) X.env := by rfl) (hline : (pa.endLine == pc.line) = true := by rfl) : JE X (.Call (.Attribute (.Name x px) "pop" pa) [] [] pc) (dPop i) := by
  refine ⟨_, pe_bm0 PySem.F.plainAttrs_list PySem.F.slot_list_pop PySem.F.type_list_pop mt_pop (pe_var hN hv hd hcd) hbase hline, fun T ρ σ H QD Q r h q => ?_⟩
  obtain ⟨ds, d, h0, h⟩ := h
  obtain ⟨m, l, vs, hm, hl, ho, hr⟩ := r.atO h0
  obtain ⟨u, hu, ru⟩ := hr.get (i := ds.length) (d := d) (by simp)
  have hlen := hr.length
  rw [List.length_append] at hlen
  have hr2 : RpAll X.K (hide (Hd T ρ σ) H) vs.dropLast ds := by
    have := hr.dropLast
    simpa using this
  obtain ⟨r3, q3⟩ := r.setO hm hl hr2
  refine ⟨_, hl, .inl ⟨rfl, _, .inl (.inl ho)⟩, l, vs, u, rfl, rfl, ho, ?_, q _ _ _ _ r3 q3 (ru.mono q3.fz) h⟩
  rw [show vs.length - 1 = ds.length by simp at hlen; omega]
  exact hu
end
end Dn
set_option Elab.async false
set_option linter.all false
set_option maxRecDepth 100000
set_option autoImplicit false
set_option maxHeartbeats 4000000
/-! {k: v} and dict([..]) with tuples of ints as keys -/
namespace Dn
open PySem L2 Evl PySem.Spec PyProof.Rows SrL
section
variable {X : Cx} {a b c e : Expr} {fa fb fc : DE} {pos p : Pos} {es : List Expr} {x y : Str}
/-- {k: v} as a dict that the frame owns, k a tuple -/
def xDctT1 (fk fv : DE) : DX := fun ρ Q => fk ρ fun y ρ1 => fv ρ1 fun d ρ2 => ∃ k : List Int, y = .tuple (k.map PyData.int) ∧ Q (.ow (.dtu [(k, d)])) ρ2
theorem jx_dctT1 {k v : Expr} {fk fv : DE} (hu : X.A.units + 64 < cLine) (hk : JE X k fk) (hv : JE X v fv) : JX X (.Dict [some k] [v] pos) (xDctT1 fk fv) := by
  obtain ⟨tk, pk, kk⟩ := hk.ex
  obtain ⟨tv, pv, kv⟩ := hv.ex
  refine ⟨_, pe_dispT hu pk pv, fun T ρ σ H QD Q r h q p hp => ?_⟩
  have r0 := r.laid (o := .dT []) hp
  refine kk (plus T p) ρ σ _ _ _ r0 h fun y ρ1 vk H1 r1 p1 v1 h => kv (plus T p) ρ1 σ H1 _ _ r1 h fun d ρ2 vv H2 r2 p2 v2 h => ?_
  obtain ⟨k, hy, hQ⟩ := h
  subst hy
  obtain ⟨kb, rfl, hkb⟩ := tup_key (v1.mono p2.fz)
  have n0 : ¬ Own ρ σ p := r0.dis p (.inl rfl)
  have n1 : ¬ Own ρ1 σ p := r1.dis p (.inl rfl)
  have n2 : ¬ Own ρ2 σ p := r2.dis p (.inl rfl)
  have a2 : H2 p = some (.dT []) := p2.keep p _ n1 (p1.keep p _ n0 upd_same)
  refine ⟨a2, kb, ksOf k, rfl, hkb, ?_⟩
  -- the heap behind it
  have e2 : Ex (hide (Hd (plus T p) ρ2 σ) H2) (hide (Hd (plus T p) ρ2 σ) (upd H2 p (.dT [(ksOf k, vv)]))) := fun a o w => by
    obtain ⟨w1, w2⟩ := hide_some.1 w
    exact hide_some.2 ⟨w1, by rw [upd_ne (fun z => w1 (.inl (.inl z)))]; exact w2⟩
  have r3 : RS X.K (plus T p) ρ2 σ (upd H2 p (.dT [(ksOf k, vv)])) := by
    refine ⟨r2.len, fun i d q => ?_, fun i m q => ?_, r2.inj, r2.dis, fun a t => ?_, r2.tag⟩
    · obtain ⟨v, h1, h2⟩ := r2.im i d q; exact ⟨v, h1, h2.mono e2⟩
    · obtain ⟨a, u, h1, h2, h3⟩ := r2.ow i m q
      exact ⟨a, u, h1, by rw [upd_ne (fun z => n2 (by rw [← z]; exact ⟨i, m, q, h1⟩))]; exact h2, h3.mono e2⟩
    · by_cases z : a = p
      · subst z; exact Lv.at fun _ z => nomatch z
      · exact (r2.dom a t).upd z
  have pz : Po ρ σ H ρ2 σ (upd H2 p (.dT [(ksOf k, vv)])) := by
    have pt := p1.trans p2
    refine ⟨fun a o n w => ?_, fun a w => ?_, fun a w => ?_⟩
    · have ne : a ≠ p := fun z => by subst z; rw [hp] at w; cases w
      rw [upd_ne ne]
      exact pt.keep a o n (by rw [upd_ne ne]; exact w)
    · rcases pt.own a w with z | z
      · exact .inl z
      · refine .inr ?_
        by_cases ne : a = p
        · subst ne; exact hp
        · rw [upd_ne ne] at z; exact z
    · by_cases ne : a = p
      · subst ne; rw [upd_same]; simp
      · rw [upd_ne ne]
        exact pt.dom a (by rw [upd_ne ne]; exact w)
  refine q (SV.ow (.dtu [(k, d)])) ρ2 _ _ ⟨p, _, rfl, hp, upd_same, r3, ?_, fun _ _ z => nomatch z⟩ pz hQ
  exact (Paired.cons ⟨rfl, v2.mono e2⟩ Paired.nil : KtRp X.K _ [(k, d)] [(ksOf k, vv)])
/-- the pairs of a list -/
def pairD (q : List Int × D) : D := .tuple [.tuple (q.1.map PyData.int), q.2]
theorem pairs_rp {K : PySem.W.Frag} {O : Addr → Prop} {H : Hp} : ∀ {vs : List V} {kvs : List (List Int × D)}, RpAll K (hide O H) vs (kvs.map pairD) → ∃ ts : List (Addr × Addr × List Int × V), vs = ts.map (fun t => V.ref t.1) ∧
    (∀ t, t ∈ ts → H t.1 = some (.tup [.ref t.2.1, t.2.2.2]) ∧ H t.2.1 = some (.tup (t.2.2.1.map V.int))) ∧ (ts.map fun t => t.2.2.1) = kvs.map (·.1) ∧ KtRp K (hide O H) kvs (ts.map fun t => (ksOf t.2.2.1, t.2.2.2))
  | _, [], .nil => ⟨[], rfl, by simp, rfl, .nil⟩
  | _, q :: kvs, .cons r rr => by
    obtain ⟨ts, rfl, h1, h2, h3⟩ := pairs_rp (kvs := kvs) rr
    unfold pairD at r
    cases r with
    | @tup a xs _ hp r2 =>
      cases r2 with
      | cons k1 r3 =>
        cases r3 with
        | cons d1 r4 =>
          cases r4
          obtain ⟨kb, rfl, hkb⟩ := tup_key k1
          rw [ks_kV] at hkb
          refine ⟨(a, kb, q.1, _) :: ts, rfl, fun t ht => ?_, by rw [List.map_cons, List.map_cons, h2], .cons ⟨rfl, d1⟩ h3⟩
          rcases List.mem_cons.mp ht with rfl | ht
          · exact ⟨at_of hp, hkb⟩
          · exact h1 t ht
/-- dict([(t, v), ..]), no t twice -/
def xDctOf (f : DL) : DX := fun ρ Q => f ρ fun ds ρ1 => ∃ kvs : List (List Int × D), ds = kvs.map pairD ∧ (kvs.map (·.1)).Nodup ∧ Q (.ow (.dtu kvs)) ρ1
theorem jx_dctOf {f : DL} (hc : X.calm = true) (hu : X.A.units + 64 < cLine) (hm : X.mg "dict" = none) (ha : JL X a f) (hg : Gl X "dict" := by rfl) (hst : starEach [a] X.env = (false, eval a X.env) :: starEach [] X.env := by rfl)
    (hpl : (backTo pos (starEach [] X.env)).any (·.1) = false := by rfl) : JX X (.Call (.Name "dict" p) [a] [] pos) (xDctOf f) := by
  obtain ⟨ta, pa, ka⟩ := ha.ex
  refine ⟨_, pe_callTy (cr_dictT hc hu) hg hm boot_dict (pa_cons pa pa_nil hst) (by decide) (by decide) hst hpl, fun T ρ σ H QD Q r h q => ka T ρ σ H _ _ r h fun ds ρ1 l vs H1 hl sl r1 v1 p1 h => ?_⟩
  obtain ⟨kvs, rfl, nd, h⟩ := h
  obtain ⟨ts, rfl, h1, h2, h3⟩ := pairs_rp v1
  refine ⟨l, ts, rfl, sl, h1, by rw [h2]; exact nd, fun p2 hp2 => ?_⟩
  have r2 := r1.unplus
  exact q (SV.ow (.dtu kvs)) ρ1 _ _ ⟨p2, _, rfl, none_back p1 hp2, upd_same, r2.laid hp2, RpO.mono (m := .dtu kvs) (o := .dT _) (fun a o w => hd_laid hp2 a o (hd_unplus a o w)) h3, fun _ _ z => nomatch z⟩ (p1.trans (.grow (Ex.new hp2))) h
end
end Dn
set_option Elab.async false
set_option linter.all false
set_option maxRecDepth 100000
set_option autoImplicit false
set_option maxHeartbeats 4000000
/-! an owned list as the right side of in; as an argument beside the dice -/
namespace Dn
open PySem L2 Evl PySem.Spec PyProof.Rows SrL
section
variable {X : Cx} {a b c e : Expr} {fa fb fc : DE} {pos p : Pos} {es : List Expr} {x y : Str} {k : Nat} {f : Addr} {fd : FuncData} {ps : List Str} {n : Nat}
/-- e op x, x an owned list -/
def dBinR (i : Nat) (op : D → D → (D → Prop) → Prop) (fb : DE) : DE := fun ρ Q => fb ρ fun y ρ1 => match ρ1[i]? with
  | some (some (.ow (.lst ds))) => op y (.list ds) fun z => isSc z = true ∧ Q z ρ1
  | _ => False
theorem jt_cmpR {op : D → D → (D → Prop) → Prop} {i : Nat} {y : Str} {py : Pos} {o : CmpOp} (ho : OpD X (compareOp o) op) (hN : X.N[i]? = some y) (hy : Vis X.env.scope y) (hb : JE X b fb) (hm : behindInMarks o (.Name y py) = false)
    (hd : (y == ("__debug__" : Str)) = false := by decide) (hcd : (y == ("__classdict__" : Str)) = false := by decide) : JT X (.Compare b [o] [.Name y py] pos) (dTst (dBinR i op fb)) := by
  obtain ⟨r, h1, h2⟩ := ho.ex
  obtain ⟨tb, pb, kb⟩ := hb.ex
  refine ⟨_, pt_cmpR h1 pb (pe_var hN hy hd hcd) hm, fun T ρ σ H QD Q r h q => kb T ρ σ H _ _ r h fun d ρ1 v H1 r1 p1 v1 h => ?_⟩
  split at h
  · rename_i ds e1
    have rf := r1.freeze e1
    obtain ⟨u, hu, ru⟩ := rf.im i (.list ds) (List.getElem?_set_self (List.getElem?_eq_some_iff.mp e1).1)
    refine ⟨u, hu, h2 _ H1 _ _ _ _ _ _ (fun a => rf.hdDom) (v1.mono hd_freeze) ru h fun z w H' e v2 h => ?_⟩
    cases v2 with
    | bl b => exact ⟨b, rfl, q _ _ _ (r1.grow e) (p1.trans (.grow e)) h.2⟩
    | _ => exact False.elim h.2
  · exact False.elim h
mutual
theorem nl_any {K : PySem.W.Frag} {G G' : Hp} (ht : ∀ a xs, G a = some (.tup xs) → G' a = some (.tup xs)) : ∀ {v : V} {d : D}, NL d → Rp K G v d → Rp K G' v d
  | _, _, .non, .non => .non
  | _, _, .bl _, .bl _ => .bl _
  | _, _, .int _, .int _ => .int _
  | _, _, .str _, .str _ => .str _
  | _, _, .tup hn, .tup hp rr => .tup (ht _ _ hp) (nl_anys ht hn rr)
theorem nl_anys {K : PySem.W.Frag} {G G' : Hp} (ht : ∀ a xs, G a = some (.tup xs) → G' a = some (.tup xs)) : ∀ {vs : List V} {ds : List D}, (∀ d, d ∈ ds → NL d) → RpAll K G vs ds → RpAll K G' vs ds
  | _, _, _, .nil => .nil
  | _, _, hn, .cons r rr => .cons (nl_any ht (hn _ (by simp)) r) (nl_anys ht (fun d hd => hn d (by simp [hd])) rr)
end
/-- f(dice, x), x an owned list; what comes back holds no list -/
def dCallMO (i j : Nat) (S : List D → List D → (D → List D → Prop) → Prop) : DE := fun ρ Q => i ≠ j ∧ ∃ ms L, atO ρ i = some ms ∧ ρ[j]? = some (some (.ow (.lst L))) ∧ S ms [.list L] fun d ms' => NL d ∧ (∀ e, e ∈ ms' → NL e) ∧ Q d (setO ρ i ms')
theorem je_callMO {i j : Nat} {px pz : Pos} {z : Str} {S : List D → List D → (D → List D → Prop) → Prop} (O : Ok X.prog X.w X.K X.mg X.base x ps k (spM X.K 2 S)) (hr : Room k X.A) (hN : X.N[i]? = some y) (hv : Vis X.env.scope y) (hN2 : X.N[j]? = some z) (hv2 : Vis X.env.scope z) (hg : Gl X x := by rfl) (hd : (y == ("__debug__" : Str)) = false := by decide) (hcd : (y == ("__classdict__" : Str)) = false := by decide)
    (hd2 : (z == ("__debug__" : Str)) = false := by decide) (hcd2 : (z == ("__classdict__" : Str)) = false := by decide) (hdb : (x == ("__debug__" : Str)) = false := by decide)
    (he2 : starEach [Expr.Name z pz] X.env = (false, eval (Expr.Name z pz) X.env) :: starEach [] X.env := by rfl) (he : starEach (Expr.Name y px :: [Expr.Name z pz]) X.env = (false, eval (Expr.Name y px) X.env) :: starEach [Expr.Name z pz] X.env := by rfl) (hpl : (backTo pos (starEach [Expr.Name z pz] X.env)).any (·.1) = false := by rfl) :
    JE X (.Call (.Name x p) [.Name y px, .Name z pz] [] pos) (dCallMO i j S) := by
  obtain ⟨f, fd, F, hm, hk, hb⟩ := O
  refine ⟨_, pe_call F hr hg hm hk hb .nil (E := fun _ _ _ => False) (fun _ _ _ _ _ _ _ h => h.elim) (pa_cons (pe_var hN hv hd hcd) (pa_cons (pe_var hN2 hv2 hd2 hcd2) pa_nil he2) he) hdb he hpl, fun T ρ σ H QD Q r h q => ?_⟩
  obtain ⟨ij, ms, L, h0, hj, h⟩ := h
  obtain ⟨m, l, ws, hm', hl, ho', hr'⟩ := r.atO h0
  obtain ⟨p, o, hp, ho2, hr2⟩ := r.ow j _ hj
  obtain ⟨vs, rfl⟩ : ∃ vs, o = .lst vs := by
    cases o with
    | lst vs => exact ⟨vs, rfl⟩
    | _ => exact False.elim hr2
  have hr2 : RpAll X.K (hide (Hd T ρ σ) H) vs L := hr2
  have lp : p ≠ l := fun w => ij (r.inj i j _ _ l hm' hj hl (by rw [← w]; exact hp))
  refine ⟨_, hl, _, hp, ?_⟩
  show spM X.K 2 S [V.ref l, V.ref p] H Q (fun _ _ _ => False)
  let T2 : Addr → Prop := fun a => (Hd T ρ σ a ∧ a ≠ l) ∧ a ≠ p
  have sub : ∀ a, plus T2 l a → Hd T ρ σ a := fun a w => by
    rcases w with w | w
    · subst w; exact .inr ⟨i, m, hm', hl⟩
    · exact w.1.1
  have e1 : Ex (hide (Hd T ρ σ) H) (hide (plus T2 l) H) := hide_sub sub
  have vis : hide (plus T2 l) H p = some (.lst vs) := hide_some.2 ⟨fun w => by
    rcases w with w | w
    · exact lp w
    · exact w.2 rfl, ho2⟩
  refine ⟨by simp, T2, l, [.ref p], ws, ms, [.list L], _, rfl, fun a w => r.hdLv w.1.1, fun w => w.1.2 rfl, ho', hr'.mono e1, .cons (.lst vis (hr2.mono e1)) .nil, h, fun v d ms' ws' H' hq kp hl2 rm rv => ?_⟩
  obtain ⟨nd, nms, hq⟩ := hq
  let Hm : Hp := fun a => if a = l then some (.lst ws) else H' a
  have eM : Ex H Hm := fun a o w => by
    show (if a = l then _ else _) = _
    by_cases z : a = l
    · subst z; rw [if_pos rfl, ← ho', w]
    · rw [if_neg z]; exact kp a o z w
  have rM := r.grow eM
  have uM : upd Hm l (.lst ws') = H' := by
    funext a
    by_cases z : a = l
    · subst z; rw [upd_same, hl2]
    · rw [upd_ne z]; show (if a = l then _ else _) = _; rw [if_neg z]
  have tups : ∀ a xs, hide (plus T2 l) H' a = some (.tup xs) → hide (Hd T ρ σ) Hm a = some (.tup xs) := fun a xs w => by
    obtain ⟨w1, w2⟩ := hide_some.1 w
    have al : a ≠ l := fun z => w1 (.inl z)
    have ap : a ≠ p := fun z => by rw [z, kp p _ lp ho2] at w2; cases w2
    refine hide_some.2 ⟨fun z => w1 (.inr ⟨⟨z, al⟩, ap⟩), ?_⟩
    show (if a = l then _ else _) = _
    rw [if_neg al]
    exact w2
  obtain ⟨r3, q3⟩ := rM.setO hm' hl (nl_anys tups nms rm)
  rw [uM] at r3 q3
  exact q d _ v H' r3 ((Po.grow eM).trans q3) ((nl_any tups nd rv).mono q3.fz) hq
end
end Dn
set_option Elab.async false
set_option linter.all false
set_option maxRecDepth 100000
set_option autoImplicit false
set_option maxHeartbeats 4000000
/-! a test that reads an owned list as it stands, and leaves it owned -/
namespace Dn
open PySem L2 Evl PySem.Spec PyProof.Rows SrL
def NS : MO → Prop
  | .lst ds => ∀ d, d ∈ ds → NL d
  | .par _ m => NS m
  | .rng _ => True
  | _ => False
theorem ns_rpo {K : PySem.W.Frag} {G G' : Hp} (ht : ∀ a xs, G a = some (.tup xs) → G' a = some (.tup xs)) : ∀ {m : MO} {o : HO}, NS m → RpO K G m o → RpO K G' m o
  | .lst ds, o, n, h => by
    cases o with
    | lst vs => exact (nl_anys ht n h : RpAll K G' vs ds)
    | _ => exact False.elim h
  | .par _ m, o, n, h => ns_rpo (m := m) ht n h
  | .rng _, o, n, h => by cases o <;> first | exact False.elim h | exact h
  | .dct _, _, n, _ => n.elim
  | .dtu _, _, n, _ => n.elim
/-- in every slot stands what holds no list, or a list of such -/
def NSs (ρ : Env) (i : Nat) : Prop := ∀ (j : Nat) (sv : SV), j ≠ i → ρ[j]? = some (some sv) → match sv with
  | .im d => NL d
  | .ow m => NS m
def dKeep (i : Nat) (f : DT) : DT := fun ρ Q => ∃ ds, ρ[i]? = some (some (.ow (.lst ds))) ∧ (∀ d, d ∈ ds → NL d) ∧ f (ρ.set i (some (.im (.list ds)))) fun b ρ1 => i < ρ1.length ∧ NSs ρ1 i ∧ Q b (ρ1.set i (some (.ow (.lst ds))))
theorem jt_keep {X : Cx} {e : Expr} {f : DT} {i : Nat} (he : JT X e f) : JT X e (dKeep i f) := by
  obtain ⟨t, pt, kt⟩ := he.ex
  refine ⟨t, pt, fun T ρ σ H QD Q r h q => ?_⟩
  obtain ⟨ds, hi, nds, h⟩ := h
  obtain ⟨p, o, hp, ho, hr⟩ := r.ow i _ hi
  obtain ⟨vs, rfl⟩ : ∃ vs, o = .lst vs := by
    cases o with
    | lst vs => exact ⟨vs, rfl⟩
    | _ => exact False.elim hr
  have hr : RpAll X.K (hide (Hd T ρ σ) H) vs ds := hr
  have own0 : Own ρ σ p := ⟨i, _, hi, hp⟩
  have ownF : ∀ a, Own (ρ.set i (some (.im (.list ds)))) σ a → Own ρ σ a ∧ a ≠ p := fun a ⟨j, m, h1, h2⟩ => by
    rcases getset h1 with ⟨_, _, z⟩ | ⟨ne, z⟩
    · cases z
    · exact ⟨⟨j, m, z, h2⟩, fun w => ne (r.inj i j _ m p hi z hp (by rw [← w]; exact h2))⟩
  refine kt T _ σ H _ _ (r.freeze hi) h fun b ρ1 H1 r1 p1 h => ?_
  obtain ⟨il, ns, h⟩ := h
  have hp1 : H1 p = some (.lst vs) := p1.keep p _ (fun w => (ownF p w).2 rfl) ho
  have own1 : ∀ a, Own ρ1 σ a → Own ρ σ a ∨ H a = none := fun a w => by
    rcases p1.own a w with z | z
    · exact .inl (ownF a z).1
    · exact .inr z
  have np1 : ¬ Own ρ1 σ p := fun w => by
    rcases p1.own p w with z | z
    · exact (ownF p z).2 rfl
    · rw [ho] at z; cases z
  have ownN : ∀ a, Own (ρ1.set i (some (.ow (.lst ds)))) σ a → a = p ∨ Own ρ1 σ a := fun a ⟨j, m, h1, h2⟩ => by
    rcases getset h1 with ⟨e1, _, z⟩ | ⟨ne, z⟩
    · subst e1
      rw [hp] at h2
      cases h2
      exact .inl rfl
    · exact .inr ⟨j, m, z, h2⟩
  have tup1 : ∀ a xs, hide (Hd T ρ1 σ) H1 a = some (.tup xs) → hide (Hd T (ρ1.set i (some (.ow (.lst ds)))) σ) H1 a = some (.tup xs) := fun a xs w => by
    obtain ⟨w1, w2⟩ := hide_some.1 w
    refine hide_some.2 ⟨fun z => ?_, w2⟩
    rcases z with z | z
    · exact w1 (.inl z)
    · rcases ownN a z with z | z
      · rw [z, hp1] at w2; cases w2
      · exact w1 (.inr z)
  have tup0 : ∀ a xs, hide (Hd T ρ σ) H a = some (.tup xs) → hide (Hd T (ρ1.set i (some (.ow (.lst ds)))) σ) H1 a = some (.tup xs) := fun a xs w => by
    obtain ⟨w1, w2⟩ := hide_some.1 w
    have w3 : H1 a = some (.tup xs) := p1.keep a _ (fun z => w1 (.inr (ownF a z).1)) w2
    refine hide_some.2 ⟨fun z => ?_, w3⟩
    rcases z with z | z
    · exact w1 (.inl z)
    · rcases ownN a z with z | z
      · rw [z, hp1] at w3; cases w3
      · exact (r1.hdLv (.inr z)).2 _ w3
  have r2 : RS X.K T (ρ1.set i (some (.ow (.lst ds)))) σ H1 := by
    refine ⟨by simp [r1.len], fun j d w => ?_, fun j m w => ?_, fun j k m m' a w1 w2 w3 w4 => ?_, fun a t w => ?_, r1.dom, fun j q m a w1 w2 => ?_⟩
    · rcases getset w with ⟨_, _, z⟩ | ⟨ne, z⟩
      · cases z
      · obtain ⟨v, z1, z2⟩ := r1.im j d z
        exact ⟨v, z1, nl_any tup1 (ns j _ (Ne.symm ne) z) z2⟩
    · rcases getset w with ⟨e1, _, z⟩ | ⟨ne, z⟩
      · cases z
        subst e1
        exact ⟨p, _, hp, hp1, (nl_anys tup0 nds hr : RpAll X.K _ vs ds)⟩
      · obtain ⟨a, u, z1, z2, z3⟩ := r1.ow j m z
        exact ⟨a, u, z1, z2, ns_rpo tup1 (ns j _ (Ne.symm ne) z) z3⟩
    · rcases getset w1 with ⟨e1, _, z1⟩ | ⟨n1, z1⟩
      · rcases getset w2 with ⟨e2, _, z2⟩ | ⟨n2, z2⟩
        · exact e1.symm.trans e2
        · subst e1
          rw [hp] at w3
          cases w3
          exact absurd ⟨k, m', z2, w4⟩ np1
      · rcases getset w2 with ⟨e2, _, z2⟩ | ⟨n2, z2⟩
        · subst e2
          rw [hp] at w4
          cases w4
          exact absurd ⟨j, m, z1, w3⟩ np1
        · exact r1.inj j k m m' a z1 z2 w3 w4
    · rcases ownN a w with z | z
      · subst z; exact r.dis a t own0
      · exact r1.dis a t z
    · rcases getset w1 with ⟨_, _, z⟩ | ⟨_, z⟩
      · cases z
      · exact r1.tag j q m a z w2
  refine q b _ H1 r2 ⟨fun a u n w => p1.keep a u (fun z => n (ownF a z).1) w, fun a w => ?_, p1.dom⟩ h
  rcases ownN a w with z | z
  · subst z; exact .inl own0
  · exact own1 a z
end Dn
set_option Elab.async false
set_option linter.all false
set_option maxRecDepth 100000
set_option autoImplicit false
set_option maxHeartbeats 4000000
namespace Dn
open PySem L2 Evl PySem.Spec PyProof.Rows
abbrev N_is_integer : List Str := ["value"]
abbrev P_is_integer : List Str := ["value"]
def g_is_integer : DS := sSeq (sIf (dTOr (dTNot (dTst (dIsi "int" (dVar 0)))) (dTst (dIsi "bool" (dVar 0)))) (sRet (dC (.bool false))) (sNx)) (sRet (dChain dLt dLt (dNeg (dC (.int 1000000000000000000000000000000000000000000000000000000000000))) (dVar 0) (dC (.int 1000000000000000000000000000000000000000000000000000000000000))))
abbrev N_is_within : List Str := ["value", "least", "most"]
abbrev P_is_within : List Str := ["value", "least", "most"]
def g_is_within : DS := sRet (dAnd (dCallF 1 S_is_integer (aCons (dVar 0) (aNil))) (dChain dLe dLe (dVar 1) (dVar 0) (dVar 2)))
abbrev N_is_thing : List Str := ["value", "size"]
abbrev P_is_thing : List Str := ["value", "size"]
def g_is_thing : DS := sRet (dAnd (dCallF 1 S_is_integer (aCons (dVar 0) (aNil))) (dChain dLe dLt (dC (.int 0)) (dVar 0) (dVar 1)))
abbrev N_is_row : List Str := ["value", "many", "size", "thing"]
abbrev P_is_row : List Str := ["value", "many", "size"]
def g_is_row : DS := sSeq (sIf (dTOr (dTNot (dTst (dIsi "tuple" (dVar 0)))) (dTst (dBin dNe (dCall dLen (aCons (dVar 0) (aNil))) (dVar 1)))) (sRet (dC (.bool false))) (sNx)) (sSeq (sFor (iSq (dVar 0)) (gNm 3) (sIf (dTOr (dTNot (dTst (dIsi "int" (dVar 3)))) (dTOr (dTst (dIsi "bool" (dVar 3))) (dTNot (dTst (dChain dLe dLt (dC (.int 0)) (dVar 3) (dVar 2)))))) (sRet (dC (.bool false))) (sNx))) (sRet (dC (.bool true))))
abbrev N_check_within : List Str := ["value", "least", "most"]
abbrev P_check_within : List Str := ["value", "least", "most"]
def g_check_within : DS := sIf (dTNot (dTst (dCallF 3 S_is_within (aCons (dVar 0) (aCons (dVar 1) (aCons (dVar 2) (aNil))))))) (sNever) (sNx)
abbrev N_check_thing : List Str := ["value", "size"]
abbrev P_check_thing : List Str := ["value", "size"]
def g_check_thing : DS := sIf (dTNot (dTst (dCallF 2 S_is_thing (aCons (dVar 0) (aCons (dVar 1) (aNil)))))) (sNever) (sNx)
abbrev N_is_move : List Str := ["value"]
abbrev P_is_move : List Str := ["value"]
def g_is_move : DS := sSeq (sIf (dTOr (dTNot (dTst (dIsi "tuple" (dVar 0)))) (dTst (dBin dGt (dCall dLen (aCons (dVar 0) (aNil))) (dC (.int 24))))) (sRet (dC (.bool false))) (sNx)) (sRet (dAnd (dCallF 3 S_is_row (aCons (dVar 0) (aCons (dCall dLen (aCons (dVar 0) (aNil))) (aCons (dCall dLen (aCons (dVar 0) (aNil))) (aNil))))) (dBin dEq (dLenSet (dVar 0)) (dCall dLen (aCons (dVar 0) (aNil))))))
abbrev N_is_move_of : List Str := ["value", "size"]
abbrev P_is_move_of : List Str := ["value", "size"]
def g_is_move_of : DS := sRet (dAnd (dCallF 1 S_is_move (aCons (dVar 0) (aNil))) (dBin dEq (dCall dLen (aCons (dVar 0) (aNil))) (dVar 1)))
abbrev N_check_move_of : List Str := ["value", "size"]
abbrev P_check_move_of : List Str := ["value", "size"]
def g_check_move_of : DS := sIf (dTNot (dTst (dCallF 2 S_is_move_of (aCons (dVar 0) (aCons (dVar 1) (aNil)))))) (sNever) (sNx)
abbrev N_check_makers : List Str := ["size", "makers", "maker"]
abbrev P_check_makers : List Str := ["size", "makers"]
def g_check_makers : DS := sSeq (sEx (dCallF 3 S_check_within (aCons (dVar 0) (aCons (dC (.int 0)) (aCons (dC (.int 24)) (aNil)))))) (sSeq (sIf (dTOr (dTNot (dTst (dIsi "tuple" (dVar 1)))) (dTst (dBin dGt (dCall dLen (aCons (dVar 1) (aNil))) (dC (.int 24))))) (sNever) (sNx)) (sFor (iSq (dVar 1)) (gNm 2) (sEx (dCallF 2 S_check_move_of (aCons (dVar 2) (aCons (dVar 0) (aNil)))))))
abbrev N__check_way : List Str := ["size", "makers", "start", "goal"]
abbrev P__check_way : List Str := ["size", "makers", "start", "goal"]
def g__check_way : DS := sSeq (sEx (dCallF 2 S_check_makers (aCons (dVar 0) (aCons (dVar 1) (aNil))))) (sSeq (sEx (dCallF 2 S_check_thing (aCons (dVar 2) (aCons (dVar 0) (aNil))))) (sEx (dCallF 2 S_check_thing (aCons (dVar 3) (aCons (dVar 0) (aNil))))))
abbrev N__ways_from : List Str := ["makers", "start", "ways", "found", "reached", "here", "index", "maker"]
abbrev P__ways_from : List Str := ["makers", "start"]
def g__ways_from : DS := sSeq (sSet 2 (xDct1 (dVar 1) (dTup (aNil)))) (sSeq (sSet 3 (xOw (lLst (aCons (dVar 1) (aNil))))) (sSeq (sSet 4 (xIm (dC (.int 0)))) (sSeq (sWh (dTst (dBin dLt (dVar 4) (dCallO 3 dLen))) (sSeq (sSet 5 (xIm (dIxP 3 (dVar 4)))) (sSeq (sFor (iEn (dVar 0)) (gTp 2 (gsCons (gNm 6) (gsCons (gNm 7) (gsNil)))) (sIf (dTst (dInK true 2 (dBin dIx (dVar 7) (dVar 5)))) (sSeq (sPutK 2 (dBin dIx (dVar 7) (dVar 5)) (dBin dAdd (dGetK 2 (dVar 5)) (dTup (aCons (dVar 6) (aNil))))) (sEx (dApp 3 (dBin dIx (dVar 7) (dVar 5))))) (sNx))) (sAugI 4 (dC (.int 1)))))) (sRetK 2))))
abbrev N__law_dice : List Str := ["_law_script", "_law_spot", "_law_cell", "_law_left"]
abbrev P__law_dice : List Str := ["_law_script", "_law_spot"]
def g__law_dice : (List D → Prop) → Env → Prop := (fun Q ρ => (sSet 2 (xIm (dIfE (dTst (dBin dLt (dVar 1) (dCall dLen (aCons (dVar 0) (aNil))))) (dCall dInt (aCons (dBin dIx (dVar 0) (dVar 1)) (aNil))) (dBin dAdd (dBin dMulA (dC (.int 83)) (dVar 1)) (dC (.int 29)))))) { nx := (fun Q ρ => (sSet 3 (xIm (dBin dMod (dCall dMax2 (aCons (dC (.int 0)) (aCons (dBin dSub (dCall dAbs (aCons (dVar 2) (aNil))) (dBin dPow (dC (.int 10)) (dC (.int 16)))) (aNil)))) (dBin dMulA (dBin dPow (dC (.int 10)) (dC (.int 60))) (dBin dPow (dC (.int 10)) (dC (.int 60))))))) { nx := (fun Q ρ => (lLst (aCons (dVar 3) (aCons (dBin dAdd (dBin dAdd (dBin dAdd (dBin dMulA (dBin dMod (dCall dAbs (aCons (dVar 2) (aNil))) (dC (.int 1152921504606845527))) (dC (.int 79))) (dBin dMulA (dC (.int 877)) (dVar 1))) (dBin dMulA (dC (.int 41)) (dCall dInt (aCons (dBin dLt (dVar 2) (dC (.int 0))) (aNil))))) (dC (.int 23))) (aCons (dC (.int 0)) (aNil))))) ρ fun es _ => Q es) Q, rt := fun _ _ => False } ρ) Q, rt := fun _ _ => False } ρ)
abbrev N__law_roll : List Str := ["_law_dice_here", "_law_total", "_law_found", "_law_one", "_law_two"]
abbrev P__law_roll : List Str := ["_law_dice_here", "_law_total"]
def g__law_roll : DS := sSeq (sIf (dTst (dBin dGt (dIxP 0 (dC (.int 0))) (dC (.int 0)))) (sSeq (sSet 2 (xIm (dBin dMod (dCall dInt (aCons (dIxP 0 (dC (.int 0))) (aNil))) (dVar 1)))) (sSeq (sSub 0 (dC (.int 0)) (dBin dFdiv (dIxP 0 (dC (.int 0))) (dVar 1))) (sRet (dVar 2)))) (sNx)) (sSeq (sSub 0 (dC (.int 2)) (dBin dAdd (dIxP 0 (dC (.int 2))) (dC (.int 1)))) (sSeq (sSet 3 (xIm (dBin dMod (dCall dInt (aCons (dBin dAdd (dIxP 0 (dC (.int 1))) (dBin dMulA (dC (.int 92821957)) (dIxP 0 (dC (.int 2))))) (aNil))) (dC (.int 2305843009213691579))))) (sSeq (sSet 4 (xIm (dBin dAdd (dBin dMulA (dBin dMod (dCall dInt (aCons (dBin dAdd (dBin dMulA (dVar 3) (dVar 3)) (dBin dMulA (dC (.int 97)) (dIxP 0 (dC (.int 2))))) (aNil))) (dC (.int 2305843009213692227))) (dC (.int 5915587))) (dVar 3)))) (sRet (dBin dMod (dCall dInt (aCons (dBin dFdiv (dVar 4) (dC (.int 65536))) (aNil))) (dVar 1))))))
abbrev N__law_mixed : List Str := ["_law_dice_here", "_law_items", "_law_left", "_law_found", "_law_turn"]
abbrev P__law_mixed : List Str := ["_law_dice_here", "_law_items"]
def g__law_mixed : DS := sSeq (sPar 2 3 (xOw (lOf (dVar 1))) (xOw (lLst (aNil)))) (sSeq (sFor (iR1 (dCall dLen (aCons (dVar 1) (aNil)))) (gNm 4) (sEx (dApp 3 (dPopAt 2 (dCallM 0 2 S__law_roll (aCons (dCallO 2 dLen) (aNil))))))) (sRetO 3))
abbrev N__law_drawn_move : List Str := ["_law_dice_here", "_law_size"]
abbrev P__law_drawn_move : List Str := ["_law_dice_here", "_law_size"]
def g__law_drawn_move : DS := sRet (dCall dTupOf (aCons (dCallM 0 2 S__law_mixed (aCons (dOfL (lRg (rg1 (dVar 1)))) (aNil))) (aNil)))
abbrev N_orbits : List Str := ["size", "makers", "seen", "found", "start", "orbit", "thing"]
abbrev P_orbits : List Str := ["size", "makers"]
def g_orbits : DS := sSeq (sEx (dCallF 2 S_check_makers (aCons (dVar 0) (aCons (dVar 1) (aNil))))) (sSeq (sSet 2 (xDct)) (sSeq (sSet 3 (xOw (lLst (aNil)))) (sSeq (sFor (iR1 (dVar 0)) (gNm 4) (sIf (dTst (dInK true 2 (dVar 4))) (sSeq (sSet 5 (xIm (dOfL (lSort (dOfL (lKeys (dCallF 2 S__ways_from (aCons (dVar 1) (aCons (dVar 4) (aNil)))))))))) (sSeq (sFor (iSq (dVar 5)) (gNm 6) (sPutK 2 (dVar 6) (dC (.bool true)))) (sEx (dApp 3 (dCall dTupOf (aCons (dVar 5) (aNil))))))) (sNx))) (sRet (dTupO 3)))))
abbrev N_way : List Str := ["size", "makers", "start", "goal"]
abbrev P_way : List Str := ["size", "makers", "start", "goal"]
def g_way : DS := sSeq (sEx (dCallF 4 S__check_way (aCons (dVar 0) (aCons (dVar 1) (aCons (dVar 2) (aCons (dVar 3) (aNil))))))) (sRet (dGet1 (dCallF 2 S__ways_from (aCons (dVar 1) (aCons (dVar 2) (aNil)))) (dVar 3)))
abbrev N_is_way : List Str := ["size", "makers", "start", "goal", "value", "shortest", "here", "index"]
abbrev P_is_way : List Str := ["size", "makers", "start", "goal", "value"]
def g_is_way : DS := sSeq (sEx (dCallF 4 S__check_way (aCons (dVar 0) (aCons (dVar 1) (aCons (dVar 2) (aCons (dVar 3) (aNil))))))) (sSeq (sSet 5 (xIm (dGet1 (dCallF 2 S__ways_from (aCons (dVar 1) (aCons (dVar 2) (aNil)))) (dVar 3)))) (sSeq (sIf (dTOr (dTst (dBin dIs (dVar 5) (dC .none))) (dTNot (dTst (dCallF 3 S_is_row (aCons (dVar 4) (aCons (dCall dLen (aCons (dVar 5) (aNil))) (aCons (dCall dLen (aCons (dVar 1) (aNil))) (aNil)))))))) (sRet (dC (.bool false))) (sNx)) (sSeq (sSet 6 (xIm (dVar 2))) (sSeq (sFor (iSq (dVar 4)) (gNm 7) (sSet 6 (xIm (dBin dIx (dBin dIx (dVar 1) (dVar 7)) (dVar 6))))) (sRet (dBin dEq (dVar 6) (dVar 3)))))))
end Dn
set_option Elab.async false
set_option linter.all false
set_option maxRecDepth 100000
set_option autoImplicit false
set_option maxHeartbeats 4000000
namespace Dn
open PySem L2 Evl PySem.Spec PyProof.Rows
abbrev N_check_integer : List Str := ["value"]
abbrev P_check_integer : List Str := ["value"]
def g_check_integer : DS := sIf (dTNot (dTst (dCallF 1 S_is_integer (aCons (dVar 0) (aNil))))) (sNever) (sNx)
abbrev N_check_move : List Str := ["value"]
abbrev P_check_move : List Str := ["value"]
def g_check_move : DS := sIf (dTNot (dTst (dCallF 1 S_is_move (aCons (dVar 0) (aNil))))) (sNever) (sNx)
abbrev N_joined_moves : List Str := ["one", "other", "thing"]
abbrev P_joined_moves : List Str := ["one", "other"]
def g_joined_moves : DS := sRet (dCall dTupOf (aCons (dOfL (lLc (iSq (dVar 1)) (gNm 2) (dYes) (dBin dIx (dVar 0) (dVar 2)) [2])) (aNil)))
abbrev N_undone_move : List Str := ["move", "sources", "thing", "goal"]
abbrev P_undone_move : List Str := ["move"]
def g_undone_move : DS := sSeq (sSet 1 (xIm (dOfK (lDc (iEn (dVar 0)) (gTp 2 (gsCons (gNm 2) (gsCons (gNm 3) (gsNil)))) (dYes) (dVar 3) (dVar 2) [2, 3])))) (sRet (dCall dTupOf (aCons (dOfL (lLc (iR1 (dCall dLen (aCons (dVar 0) (aNil)))) (gNm 2) (dYes) (dGetD (dVar 1) (dVar 2)) [2])) (aNil))))
abbrev N_joined : List Str := ["one", "other"]
abbrev P_joined : List Str := ["one", "other"]
def g_joined : DS := sSeq (sEx (dCallF 1 S_check_move (aCons (dVar 0) (aNil)))) (sSeq (sEx (dCallF 2 S_check_move_of (aCons (dVar 1) (aCons (dCall dLen (aCons (dVar 0) (aNil))) (aNil))))) (sRet (dCallF 2 S_joined_moves (aCons (dVar 0) (aCons (dVar 1) (aNil))))))
abbrev N_undone : List Str := ["move"]
abbrev P_undone : List Str := ["move"]
def g_undone : DS := sSeq (sEx (dCallF 1 S_check_move (aCons (dVar 0) (aNil)))) (sRet (dCallF 1 S_undone_move (aCons (dVar 0) (aNil))))
abbrev N__cycles_of : List Str := ["move", "seen", "found", "start", "cycle", "thing"]
abbrev P__cycles_of : List Str := ["move"]
def g__cycles_of : DS := sSeq (sSet 1 (xDct)) (sSeq (sSet 2 (xOw (lLst (aNil)))) (sSeq (sFor (iR1 (dCall dLen (aCons (dVar 0) (aNil)))) (gNm 3) (sIf (dTst (dInK true 1 (dVar 3))) (sSeq (sSet 4 (xOw (lLst (aCons (dVar 3) (aNil))))) (sSeq (sWh (dTst (dBin dNe (dBin dIx (dVar 0) (dIxP 4 (dNeg (dC (.int 1))))) (dVar 3))) (sEx (dApp 4 (dBin dIx (dVar 0) (dIxP 4 (dNeg (dC (.int 1)))))))) (sSeq (sFor (iOw 4) (gNm 5) (sPutK 1 (dVar 5) (dC (.bool true)))) (sEx (dApp 2 (dCall dTupOf (aCons (dVar 4) (aNil)))))))) (sNx))) (sRetO 2)))
abbrev N__law_pick : List Str := ["_law_dice_here", "_law_items"]
abbrev P__law_pick : List Str := ["_law_dice_here", "_law_items"]
def g__law_pick : DS := sRet (dBin dIx (dVar 1) (dCallM 0 2 S__law_roll (aCons (dCall dLen (aCons (dVar 1) (aNil))) (aNil))))
abbrev N__law_joined : List Str := ["_law_one", "_law_other", "_law_thing"]
abbrev P__law_joined : List Str := ["_law_one", "_law_other"]
def g__law_joined : DS := sRet (dCall dTupOf (aCons (dOfL (lLc (iSq (dVar 1)) (gNm 2) (dYes) (dBin dIx (dVar 0) (dVar 2)) [2])) (aNil)))
abbrev N__law_undone : List Str := ["_law_move", "_law_found", "_law_thing", "_law_goal"]
abbrev P__law_undone : List Str := ["_law_move"]
def g__law_undone : DS := sSeq (sSet 1 (xOw (lLc (iSq (dVar 0)) (gNm 2) (dYes) (dC (.int 0)) [2]))) (sSeq (sFor (iEn (dVar 0)) (gTp 2 (gsCons (gNm 2) (gsCons (gNm 3) (gsNil)))) (sSub 1 (dVar 3) (dVar 2))) (sRet (dTupO 1)))
abbrev N__law_power : List Str := ["_law_move", "_law_times", "_law_found", "_law_turn"]
abbrev P__law_power : List Str := ["_law_move", "_law_times"]
def g__law_power : DS := sSeq (sSet 2 (xIm (dTRg (rg1 (dCall dLen (aCons (dVar 0) (aNil))))))) (sSeq (sFor (iR1 (dVar 1)) (gNm 3) (sSet 2 (xIm (dCallF 2 S__law_joined (aCons (dVar 0) (aCons (dVar 2) (aNil))))))) (sRet (dVar 2)))
abbrev N__law_order_of : List Str := ["_law_move", "_law_found", "_law_here", "_law_turn"]
abbrev P__law_order_of : List Str := ["_law_move"]
def g__law_order_of : DS := sSeq (sPar 1 2 (xIm (dC (.int 1))) (xIm (dVar 0))) (sSeq (sFor (iR1 (dC (.int 100))) (gNm 3) (sSeq (sIf (dTst (dBin dEq (dVar 2) (dTRg (rg1 (dCall dLen (aCons (dVar 0) (aNil))))))) (sRet (dVar 1)) (sNx)) (sPar 1 2 (xIm (dBin dAdd (dVar 1) (dC (.int 1)))) (xIm (dCallF 2 S__law_joined (aCons (dVar 0) (aCons (dVar 2) (aNil)))))))) (sRet (dC (.int 0))))
abbrev N__law_cycles : List Str := ["_law_move", "_law_found", "_law_met", "_law_thing", "_law_row"]
abbrev P__law_cycles : List Str := ["_law_move"]
def g__law_cycles : DS := sSeq (sPar 1 2 (xOw (lLst (aNil))) (xDct)) (sSeq (sFor (iR1 (dCall dLen (aCons (dVar 0) (aNil)))) (gNm 3) (sIf (dTst (dInK true 2 (dVar 3))) (sSeq (sSet 4 (xOw (lLst (aCons (dVar 3) (aNil))))) (sSeq (sPutK 2 (dVar 3) (dC (.bool true))) (sSeq (sWh (dTst (dBin dNe (dBin dIx (dVar 0) (dIxP 4 (dNeg (dC (.int 1))))) (dVar 3))) (sSeq (sEx (dApp 4 (dBin dIx (dVar 0) (dIxP 4 (dNeg (dC (.int 1))))))) (sPutK 2 (dIxP 4 (dNeg (dC (.int 1)))) (dC (.bool true))))) (sEx (dApp 1 (dTupO 4)))))) (sNx))) (sRet (dTupO 1)))
abbrev N__law_rotated : List Str := ["_law_row", "_law_at"]
abbrev P__law_rotated : List Str := ["_law_row"]
def g__law_rotated : DS := sSeq (sSet 1 (xIm (dIndex (dVar 0) (dCall dMinL (aCons (dVar 0) (aNil)))))) (sRet (dCall dTupOf (aCons (dBin dAdd (dSl (dVar 0) (oSome (dVar 1)) (oNone)) (dSl (dVar 0) (oNone) (oSome (dVar 1)))) (aNil))))
abbrev N_raised : List Str := ["move", "many", "goals", "cycle", "index", "thing"]
abbrev P_raised : List Str := ["move", "many"]
def g_raised : DS := sSeq (sEx (dCallF 1 S_check_move (aCons (dVar 0) (aNil)))) (sSeq (sEx (dCallF 1 S_check_integer (aCons (dVar 1) (aNil)))) (sSeq (sSet 2 (xDct)) (sSeq (sFor (iSq (dCallF 1 S__cycles_of (aCons (dVar 0) (aNil)))) (gNm 3) (sFor (iEn (dVar 3)) (gTp 2 (gsCons (gNm 4) (gsCons (gNm 5) (gsNil)))) (sPutK 2 (dVar 5) (dBin dIx (dVar 3) (dBin dMod (dBin dAdd (dVar 4) (dVar 1)) (dCall dLen (aCons (dVar 3) (aNil)))))))) (sRet (dCall dTupOf (aCons (dOfL (lLc (iR1 (dCall dLen (aCons (dVar 0) (aNil)))) (gNm 5) (dYes) (dGetK 2 (dVar 5)) [5])) (aNil)))))))
abbrev N_cycles : List Str := ["move"]
abbrev P_cycles : List Str := ["move"]
def g_cycles : DS := sSeq (sEx (dCallF 1 S_check_move (aCons (dVar 0) (aNil)))) (sRet (dCall dTupOf (aCons (dCallF 1 S__cycles_of (aCons (dVar 0) (aNil))) (aNil))))
abbrev N_order_of : List Str := ["move", "order", "cycle"]
abbrev P_order_of : List Str := ["move"]
def g_order_of : DS := sSeq (sEx (dCallF 1 S_check_move (aCons (dVar 0) (aNil)))) (sSeq (sSet 1 (xIm (dC (.int 1)))) (sSeq (sFor (iSq (dCallF 1 S__cycles_of (aCons (dVar 0) (aNil)))) (gNm 2) (sSet 1 (xIm (dCall dLcm (aCons (dVar 1) (aCons (dCall dLen (aCons (dVar 2) (aNil))) (aNil))))))) (sRet (dVar 1))))
end Dn
set_option Elab.async false
set_option linter.all false
set_option maxRecDepth 100000
set_option autoImplicit false
set_option maxHeartbeats 4000000
namespace Dn
open PySem L2 Evl PySem.Spec PyProof.Rows
local macro_rules | `(tactic| walk_at "dd") => `(tactic| simp only [sSeq, sIf, sSet, sRet, sRetN, sNx, sEx, sAsg, sPar, dTOr, dTAnd, dTNot, dTst, dIsi, dVar, dC, dBin, dChain, dNeg, dI2, dAnd, dOr, dNot, dIfE, dCall, dCallF, aCons, aNil, dTup, lLst, dOfL, xIm, xOw, gNm, gTp, gsCons, gsNil, dYes, envD, dLen_tR, dLen_tI, dLen_tup, dLen_lst, seq_tR, seq_tI, seq_tup, seq_lst, dIs, dIsNot, dNe, dEq, dTupOf, dSl, oNone, oSome, iSq, iEn, iR1, iR2, sFor, lLc, sNever, dTRg, rg1, rg2, lRg, wipeD, isN,
  dIxP, sSub, dApp, dPopAt, dExt, dCallM, dCallO, dBinO, dTupO, lOf, lOfO, sRetO, iOw, dVarF, lCat, lCall, dAbs, dMax2, dMin2, dInt, atO, setO, MO.getL, MO.putL, Option.isSome_some,
  dInK, dGetK, dGetD, dInD, dGet1, lKeys, lSort, dLenSet, dRevT, sPutK, xDct, xDct1, sRetK, atK, keyD, sAugI,
  kit_int, kit_bool, kit_tuple, kit_str, List.map_cons, List.map_nil, List.cons_append, List.nil_append, List.replicate, List.set_cons_zero, List.set_cons_succ, List.getElem?_cons_zero, List.getElem?_cons_succ, List.length_cons, List.length_nil, List.length_map, Nat.reduceAdd, Nat.reduceSub, Bool.not_true, Bool.not_false, Bool.false_eq_true, if_true, if_false, true_and, reduceCtorEq, Bool.true_eq_false, rgD_rgI, Option.some.injEq, exists_eq_left', and_true])
theorem dc_ok (a b c : Int) : Dc [.int a, .int b, .int c] := ⟨a, b, c, rfl⟩
theorem v__law_dice : VL g__law_dice S__law_dice 2 2 := fun ds Q _ h => by
  obtain ⟨s, i, rfl, i0, h⟩ := h
  unfold g__law_dice
  have e16 : CPow 10 16 := by unfold CPow; decide +kernel
  have e60 : CPow 10 60 := by unfold CPow; decide +kernel
  have m60 : CMul (10 ^ Int.toNat 60) (10 ^ Int.toNat 60) ∨ CMulW (10 ^ Int.toNat 60) (10 ^ Int.toNat 60) := .inr (by unfold CMulW; decide +kernel)
  have p60 : (0 : Int) < 10 ^ Int.toNat 60 * 10 ^ Int.toNat 60 := by decide +kernel
  have s877 : CMul 877 i ∨ CMulW 877 i := cm_l ⟨by decide, by decide⟩
  have fin : ∀ z : Int, dAbs [.int z] fun z_1 => CPow 10 16 ∧ dSub z_1 (PyData.int (10 ^ Int.toNat 16)) fun z_2 => dMax2 [.int 0, z_2] fun z_3 => CPow 10 60 ∧ CPow 10 60 ∧ (CMul (10 ^ Int.toNat 60) (10 ^ Int.toNat 60) ∨ CMulW (10 ^ Int.toNat 60) (10 ^ Int.toNat 60)) ∧
      dMod z_3 (PyData.int (10 ^ Int.toNat 60 * 10 ^ Int.toNat 60)) fun z_4 => dAbs [.int z] fun z_5 => dMod z_5 (PyData.int 1152921504606845527) fun z_6 => dMulA z_6 (PyData.int 79) fun z_7 => (CMul 877 i ∨ CMulW 877 i) ∧ dAdd z_7 (PyData.int (877 * i)) fun z_8 =>
        dLt (.int z) (PyData.int 0) fun z => dInt [z] fun z => dMulA (PyData.int 41) z fun z => dAdd z_8 z fun z => dAdd z (PyData.int 23) fun z => 3 ≤ 16777216 ∧ Q [z_4, z, PyData.int 0] := fun z =>
    ⟨e16, trivial, e60, e60, m60, p60, (by show (0 : Int) < 1152921504606845527; decide), cm_r ⟨by decide, by decide⟩, s877, trivial, cm_l ⟨by decide, by decide⟩, by decide, h _ (dc_ok _ _ _)⟩
  walk_at "dd"
  refine ⟨trivial, ?_⟩
  refine ite_ways (b := decide (i < ((s.map PyData.int).length : Int))) (fun z => ?_) (fun z => ?_)
  · have z' : i < s.length := by simpa using z
    refine ⟨.int (s.getD i.toNat 0), ?_, fin _⟩
    have := atI_in (d := PyData.int 0) i0 (show i < ((s.map PyData.int).length : Int) by simpa using z')
    rw [show (s.map PyData.int).getD i.toNat (PyData.int 0) = .int (s.getD i.toNat 0) from by simp [List.getD]] at this
    exact this
  · exact ⟨cm_l ⟨by decide, by decide⟩, fin _⟩
theorem v__law_roll : VM g__law_roll S__law_roll 2 3 := fun l ms ds Q _ h => by
  obtain ⟨t, rfl, t0, t1, ⟨a, b, c, rfl⟩, h⟩ := h
  unfold g__law_roll
  walk_at "dd"
  refine ⟨_, _, _, rfl, rfl, rfl, trivial, ?_⟩
  refine ite_ways (b := decide ((0 : Int) < a)) (fun z => ?_) (fun z => ?_)
  · refine ⟨_, _, _, rfl, rfl, rfl, t0, ?_⟩
    refine ⟨_, _, _, rfl, rfl, rfl, cd_t t0 t1, ?_⟩
    exact ⟨_, _, _, rfl, rfl, rfl, _, rfl, h _ _ (Int.emod_nonneg _ (by omega)) (Int.emod_lt_of_pos _ t0) (dc_ok _ _ _)⟩
  · refine ⟨_, _, _, rfl, rfl, rfl, ?_⟩
    refine ⟨_, _, _, rfl, rfl, rfl, ?_⟩
    refine ⟨_, _, _, rfl, rfl, rfl, ?_⟩
    refine ⟨_, _, _, rfl, rfl, rfl, cm_l ⟨by decide, by decide⟩, (by show (0 : Int) < 2305843009213691579; decide), ?_⟩
    have hb : ∀ x : Int, -(2 ^ 64) < x % 2305843009213691579 ∧ x % 2305843009213691579 < 2 ^ 64 := fun x => by
      have h1 := Int.emod_nonneg x (show (2305843009213691579 : Int) ≠ 0 by decide)
      have h2 := Int.emod_lt_of_pos x (show (0 : Int) < 2305843009213691579 by decide)
      omega
    refine ⟨cm_l (hb _), ?_⟩
    refine ⟨_, _, _, rfl, rfl, rfl, cm_l ⟨by decide, by decide⟩, (by show (0 : Int) < 2305843009213692227; decide), cm_r ⟨by decide, by decide⟩, ?_⟩
    refine ⟨⟨by decide, by decide +kernel⟩, t0, _, rfl, h _ _ (Int.emod_nonneg _ (by omega)) (Int.emod_lt_of_pos _ t0) (dc_ok _ _ _)⟩
theorem v__law_mixed : VM g__law_mixed S__law_mixed 2 3 := fun l ms ds Q _ h => by
  obtain ⟨d, xs, rfl, hd, hl, hm, h⟩ := h
  unfold g__law_mixed
  walk_at "dd"
  rw [hd]
  dsimp only
  rw [dLen_seq hd]
  refine ⟨by omega, ⟨by omega, by omega, by omega, by omega⟩, ?_⟩
  rw [rgD_rgI]
  refine wpFor_cps (fun done ρ => ∃ ms L Fd x, ρ = [some (SV.ow (MO.par l (MO.lst ms))), some (SV.im d), some (SV.ow (MO.lst L)), some (SV.ow (MO.lst Fd)), x] ∧ Dc ms ∧ (Fd ++ L).Perm xs ∧ Fd.length = done.length) ⟨ms, xs, [], _, rfl, hm, by simp, rfl⟩ (fun done d' rest ρ K e p k => ?_) (fun ρ p => ?_)
  · obtain ⟨ms, L, Fd, x, rfl, hm, hp, hf⟩ := p
    have hlen := hp.length_eq
    have he := congrArg List.length e
    simp [rgI_len] at he hlen
    walk_at "dd"
    refine ⟨rfl, _, rfl, by omega, by simp only [T60]; omega, hm, fun r ms' r0 r1 hm' => ?_⟩
    have hr : r.toNat < L.length := by omega
    refine ⟨L, r, r.toNat, L[r.toNat], rfl, rfl, r0, r1, rfl, List.getElem?_eq_getElem hr, by omega, by omega, ?_⟩
    refine k _ ⟨ms', L.eraseIdx r.toNat, Fd ++ [L[r.toNat]], _, rfl, hm', ?_, by simp [hf]⟩
    refine List.Perm.trans ?_ hp
    rw [List.append_assoc]
    refine List.Perm.append_left _ ?_
    exact erase_permD hr
  · obtain ⟨ms, L, Fd, x, rfl, hm, hp, hf⟩ := p
    have hlen := hp.length_eq
    simp [rgI_len] at hf hlen
    have : L = [] := List.length_eq_zero_iff.mp (by omega)
    subst this
    exact ⟨ms, rfl, h Fd ms (by simpa using hp) hm⟩
theorem perm_ints {ys : List D} {ns : List Int} (h : ys.Perm (ns.map PyData.int)) : ∃ ms : List Int, ys = ms.map PyData.int ∧ ms.Perm ns := by
  have : ∀ (xs ys : List D), xs.Perm ys → ∀ ns : List Int, ys = ns.map PyData.int → ∃ ms : List Int, xs = ms.map PyData.int ∧ ms.Perm ns := by
    intro xs ys h
    induction h with
    | nil => intro ns e; cases ns with | nil => exact ⟨[], rfl, .nil⟩ | cons _ _ => cases e
    | cons x h ih =>
      intro ns e
      cases ns with
      | nil => cases e
      | cons n ns =>
        simp at e
        obtain ⟨ms, e1, e2⟩ := ih ns e.2
        exact ⟨n :: ms, by simp [e1, e.1], e2.cons n⟩
    | swap x y l =>
      intro ns e
      match ns, e with
      | a :: b :: ns, e =>
        simp at e
        exact ⟨b :: a :: ns, by simp [e.1, e.2.1, e.2.2], .swap a b ns⟩
    | trans h1 h2 ih1 ih2 =>
      intro ns e
      obtain ⟨ms, e1, e2⟩ := ih2 ns e
      obtain ⟨ms2, e3, e4⟩ := ih1 ms e1
      exact ⟨ms2, e3, e4.trans e2⟩
  exact this _ _ h _ rfl
theorem v__law_drawn_move : VM g__law_drawn_move S__law_drawn_move 2 0 := fun l ms ds Q _ h => by
  obtain ⟨n, rfl, hn, hm, h⟩ := h
  unfold g__law_drawn_move
  walk_at "dd"
  refine ⟨⟨by omega, by omega, by omega, by omega⟩, _, _, rfl, rfl, by simp [rgI_len]; omega, hm, fun ys ms' hp hm' => ?_⟩
  obtain ⟨m, rfl, hp2⟩ := perm_ints hp
  exact ⟨ms', rfl, h m ms' hp2 hm'⟩
end Dn
set_option Elab.async false
set_option linter.all false
set_option maxRecDepth 100000
set_option autoImplicit false
set_option maxHeartbeats 4000000
namespace Dn.K01
open PySem L2 Evl PySem.Spec PyProof.Rows
abbrev N_closure_within : List Str := ["size", "makers", "most", "found", "seen", "reached", "maker", "further"]
abbrev P_closure_within : List Str := ["size", "makers", "most"]
def g_closure_within : DS := sSeq (sSet 3 (xOw (lLst (aCons (dTRg (rg1 (dVar 0))) (aNil))))) (sSeq (sSet 4 (xDctT1 (dIxP 3 (dC (.int 0))) (dC (.bool true)))) (sSeq (sSet 5 (xIm (dC (.int 0)))) (sSeq (sWh (dTst (dBin dLt (dVar 5) (dCallO 3 dLen))) (sSeq (sFor (iSq (dVar 1)) (gNm 6) (sSeq (sSet 7 (xIm (dCallF 2 S_joined_moves (aCons (dIxP 3 (dVar 5)) (aCons (dVar 6) (aNil)))))) (sIf (dTst (dInT true 4 (dVar 7))) (sSeq (sPutT 4 (dVar 7) (dC (.bool true))) (sEx (dApp 3 (dVar 7)))) (sNx)))) (sSeq (sIf (dTst (dBin dGt (dCallO 3 dLen) (dVar 2))) (sNever) (sNx)) (sAugI 5 (dC (.int 1)))))) (sRet (dCall dTupOf (aCons (dOfL (lSortT2 (dVarF 3))) (aNil)))))))
abbrev N__law_closed_moves : List Str := ["_law_size", "_law_makers_here", "_law_found", "_law_waiting", "_law_here", "_law_move", "_law_later"]
abbrev P__law_closed_moves : List Str := ["_law_size", "_law_makers_here"]
def g__law_closed_moves : DS := sSeq (sPar 2 3 (xDctT1 (dTRg (rg1 (dVar 0))) (dC (.bool true))) (xOw (lLst (aCons (dTRg (rg1 (dVar 0))) (aNil))))) (sSeq (sWh (dTst (dBinO 3 dNe (dOfL (lLst (aNil))))) (sSeq (sSet 4 (xIm (dPop 3))) (sFor (iSq (dVar 1)) (gNm 5) (sSeq (sSet 6 (xIm (dCallF 2 S__law_joined (aCons (dVar 5) (aCons (dVar 4) (aNil)))))) (sIf (dTst (dInT true 2 (dVar 6))) (sSeq (sPutT 2 (dVar 6) (dC (.bool true))) (sEx (dApp 3 (dVar 6)))) (sNx)))))) (sRet (dOfL (lSortDT 2))))
abbrev N__law_orbits : List Str := ["_law_size", "_law_makers_here", "_law_found", "_law_thing", "_law_lot", "_law_waiting", "_law_here", "_law_move"]
abbrev P__law_orbits : List Str := ["_law_size", "_law_makers_here"]
def g__law_orbits : DS := sSeq (sSet 2 (xOw (lLst (aNil)))) (sSeq (sFor (iR1 (dVar 0)) (gNm 3) (sIf (dTNot (dKeep 2 (dTst (dCall dAny (aCons (dOfL (lLc (iSq (dVar 2)) (gNm 4) (dYes) (dBin (dIn false) (dVar 3) (dVar 4)) [4])) (aNil)))))) (sSeq (sPar 4 5 (xOw (lLst (aCons (dVar 3) (aNil)))) (xOw (lLst (aCons (dVar 3) (aNil))))) (sSeq (sWh (dTst (dBinO 5 dNe (dOfL (lLst (aNil))))) (sSeq (sSet 6 (xIm (dPop 5))) (sFor (iSq (dVar 1)) (gNm 7) (sIf (dTst (dBinR 4 (dIn true) (dBin dIx (dVar 7) (dVar 6)))) (sSeq (sEx (dApp 4 (dBin dIx (dVar 7) (dVar 6)))) (sEx (dApp 5 (dBin dIx (dVar 7) (dVar 6))))) (sNx))))) (sEx (dApp 2 (dCall dTupOf (aCons (dOfL (lSort (dVarF 4))) (aNil))))))) (sNx))) (sRet (dTupO 2)))
abbrev N__law_makers : List Str := ["_law_dice_here", "_law_size", "_law_found", "_law_turn", "_law_move"]
abbrev P__law_makers : List Str := ["_law_dice_here", "_law_size"]
def g__law_makers : DS := sSeq (sSet 2 (xOw (lLst (aNil)))) (sSeq (sFor (iR1 (dCallM 0 2 S__law_roll (aCons (dC (.int 4)) (aNil)))) (gNm 3) (sSeq (sSet 4 (xIm (dCallM 0 2 S__law_drawn_move (aCons (dVar 1) (aNil))))) (sSeq (sIf (dTAnd (dTst (dBinO 2 dNe (dOfL (lLst (aNil))))) (dTst (dBin dEq (dCallM 0 2 S__law_roll (aCons (dC (.int 2)) (aNil))) (dC (.int 0))))) (sSet 4 (xIm (dCallF 2 S__law_power (aCons (dCallMO 0 2 S__law_pick) (aCons (dCallM 0 2 S__law_roll (aCons (dC (.int 4)) (aNil))) (aNil)))))) (sNx)) (sEx (dApp 2 (dVar 4)))))) (sRet (dTupO 2)))
abbrev N_closure : List Str := ["size", "makers"]
abbrev P_closure : List Str := ["size", "makers"]
def g_closure : DS := sSeq (sEx (dCallF 2 S_check_makers (aCons (dVar 0) (aCons (dVar 1) (aNil))))) (sRet (dCallF 3 S_closure_within (aCons (dVar 0) (aCons (dVar 1) (aCons (dC (.int 1000)) (aNil))))))
abbrev N_orbits : List Str := ["size", "makers", "seen", "found", "start", "orbit", "thing"]
abbrev P_orbits : List Str := ["size", "makers"]
def g_orbits : DS := sSeq (sEx (dCallF 2 S_check_makers (aCons (dVar 0) (aCons (dVar 1) (aNil))))) (sSeq (sSet 2 (xDct)) (sSeq (sSet 3 (xOw (lLst (aNil)))) (sSeq (sFor (iR1 (dVar 0)) (gNm 4) (sIf (dTst (dInK true 2 (dVar 4))) (sSeq (sSet 5 (xIm (dOfL (lSort (dOfL (lKeys (dCallF 2 S__ways_from (aCons (dVar 1) (aCons (dVar 4) (aNil)))))))))) (sSeq (sFor (iSq (dVar 5)) (gNm 6) (sPutK 2 (dVar 6) (dC (.bool true)))) (sEx (dApp 3 (dCall dTupOf (aCons (dVar 5) (aNil))))))) (sNx))) (sRet (dTupO 3)))))
abbrev N__law_right : List Str := ["_law_dice_here", "_law_size", "_law_makers_here", "_law_told", "_law_due", "_law_known", "_law_turn", "_law_one", "_law_other", "_law_lots", "_law_lot", "_law_move"]
abbrev P__law_right : List Str := ["_law_dice_here", "_law_size"]
def g__law_right : DS := sSeq (sSet 2 (xIm (dCallM 0 2 S__law_makers (aCons (dVar 1) (aNil))))) (sSeq (sPar 3 4 (xIm (dCallF 2 S_closure (aCons (dVar 1) (aCons (dVar 2) (aNil))))) (xIm (dCallF 2 S__law_closed_moves (aCons (dVar 1) (aCons (dVar 2) (aNil)))))) (sSeq (sIf (dTOr (dTNot (dTst (dIsi "tuple" (dVar 3)))) (dTOr (dTst (dBin dNe (dOfL (lOf (dVar 3))) (dVar 4))) (dTst (dBin dNe (dCallF 2 S_closure (aCons (dVar 1) (aCons (dCall dTupOf (aCons (dCallM 0 2 S__law_mixed (aCons (dVar 2) (aNil))) (aNil))) (aNil)))) (dVar 3))))) (sRet (dC (.bool false))) (sNx)) (sSeq (sSet 5 (xDctOf (lLc (iSq (dVar 3)) (gNm 11) (dYes) (dTup (aCons (dVar 11) (aCons (dC (.bool true)) (aNil)))) [11]))) (sSeq (sFor (iR1 (dC (.int 5))) (gNm 6) (sSeq (sPar 7 8 (xIm (dCallM 0 2 S__law_pick (aCons (dVar 4) (aNil)))) (xIm (dCallM 0 2 S__law_pick (aCons (dVar 4) (aNil))))) (sIf (dTOr (dTst (dInT true 5 (dCallF 2 S_joined (aCons (dVar 7) (aCons (dVar 8) (aNil)))))) (dTst (dInT true 5 (dCallF 1 S_undone (aCons (dVar 7) (aNil)))))) (sRet (dC (.bool false))) (sNx)))) (sSeq (sSet 9 (xIm (dCallF 2 S_orbits (aCons (dVar 1) (aCons (dVar 2) (aNil)))))) (sSeq (sIf (dTOr (dTst (dBin dNe (dVar 9) (dCallF 2 S__law_orbits (aCons (dVar 1) (aCons (dVar 2) (aNil)))))) (dTAnd (dTst (dBin dNe (dVar 9) (dCallF 2 S_orbits (aCons (dVar 1) (aCons (dSl (dVar 3) (oNone) (oSome (dC (.int 24)))) (aNil)))))) (dTst (dBin dLe (dCall dLen (aCons (dVar 3) (aNil))) (dC (.int 24)))))) (sRet (dC (.bool false))) (sNx)) (sSeq (sFor (iSq (dVar 9)) (gNm 10) (sIf (dTst (dBin dNe (dBin dMulA (dCall dLen (aCons (dOfL (lLc (iSq (dVar 3)) (gNm 11) (dTst (dBin dEq (dBin dIx (dVar 11) (dBin dIx (dVar 10) (dC (.int 0)))) (dBin dIx (dVar 10) (dC (.int 0))))) (dVar 11) [11])) (aNil))) (dCall dLen (aCons (dVar 10) (aNil)))) (dCall dLen (aCons (dVar 3) (aNil))))) (sRet (dC (.bool false))) (sNx))) (sRet (dBin dEq (dCall dSum (aCons (dOfL (lLc (iSq (dVar 9)) (gNm 10) (dYes) (dCall dLen (aCons (dVar 10) (aNil))) [10])) (aNil))) (dVar 1))))))))))
abbrev N_law : List Str := ["_law_script", "_law_spot", "_law_dice_here"]
abbrev P_law : List Str := ["_law_script"]
def g_law : DS := sSeq (sFor (iR1 (dCall dMax2 (aCons (dC (.int 1)) (aCons (dCall dMin2 (aCons (dC (.int 4)) (aCons (dCall dLen (aCons (dVar 0) (aNil))) (aNil)))) (aNil))))) (gNm 1) (sSeq (sSet 2 (xOw (lCall 2 S__law_dice (aCons (dVar 0) (aCons (dVar 1) (aNil)))))) (sIf (dTOr (dTNot (dTst (dCallM 2 2 S__law_right (aCons (dBin dAdd (dC (.int 1)) (dCallM 2 2 S__law_roll (aCons (dC (.int 6)) (aNil)))) (aNil))))) (dTNot (dTst (dCallM 2 2 S__law_right (aCons (dBin dAdd (dC (.int 1)) (dCallM 2 2 S__law_roll (aCons (dC (.int 4)) (aNil)))) (aNil)))))) (sRet (dC (.bool false))) (sNx)))) (sSeq (sIf (dTst (dBin dNe (dOfL (lLst (aCons (dCallF 2 S_closure (aCons (dC (.int 0)) (aCons (dTup (aNil)) (aNil)))) (aCons (dCallF 2 S_closure (aCons (dC (.int 3)) (aCons (dTup (aNil)) (aNil)))) (aCons (dCallF 2 S_orbits (aCons (dC (.int 0)) (aCons (dTup (aNil)) (aNil)))) (aCons (dCallF 2 S_orbits (aCons (dC (.int 2)) (aCons (dTup (aNil)) (aNil)))) (aNil))))))) (dOfL (lLst (aCons (dTup (aCons (dTup (aNil)) (aNil))) (aCons (dTup (aCons (dTup (aCons (dC (.int 0)) (aCons (dC (.int 1)) (aCons (dC (.int 2)) (aNil))))) (aNil))) (aCons (dTup (aNil)) (aCons (dTup (aCons (dTup (aCons (dC (.int 0)) (aNil))) (aCons (dTup (aCons (dC (.int 1)) (aNil))) (aNil)))) (aNil))))))))) (sRet (dC (.bool false))) (sNx)) (sRet (dBin dEq (dCall dLen (aCons (dCallF 2 S_closure (aCons (dC (.int 6)) (aCons (dTup (aCons (dTup (aCons (dC (.int 1)) (aCons (dC (.int 2)) (aCons (dC (.int 3)) (aCons (dC (.int 4)) (aCons (dC (.int 5)) (aCons (dC (.int 0)) (aNil)))))))) (aCons (dTup (aCons (dC (.int 1)) (aCons (dC (.int 0)) (aCons (dC (.int 2)) (aCons (dC (.int 3)) (aCons (dC (.int 4)) (aCons (dC (.int 5)) (aNil)))))))) (aNil)))) (aNil)))) (aNil))) (dC (.int 720)))))
end Dn.K01
set_option Elab.async false
set_option linter.all false
set_option maxRecDepth 100000
set_option autoImplicit false
set_option maxHeartbeats 4000000
namespace Dn.K01
open PySem L2 Evl PySem.Spec PyProof.Rows
def top (i : Nat) : Stmt := PySem.Challenge.pw_truenames_k01_whole_closures_and_orbits.main.body.getD i (.Pass ⟨0, 0, 0, 0⟩)
structure Bl (mg : Str → Option Value) : Prop where
  len : mg "len" = none
  range : mg "range" = none
  tuple : mg "tuple" = none
  list : mg "list" = none
  isinstance : mg "isinstance" = none
  int : mg "int" = none
  bool : mg "bool" = none
  str : mg "str" = none
  abs : mg "abs" = none
  max : mg "max" = none
  min : mg "min" = none
  all : mg "all" = none
  any : mg "any" = none
  sum : mg "sum" = none
  sorted : mg "sorted" = none
  enumerate : mg "enumerate" = none
  repr : mg "repr" = none
  set : mg "set" = none
  dict : mg "dict" = none
  zip : mg "zip" = none
abbrev st_is_integer : Stmt := top 7
abbrev st_is_within : Stmt := top 8
abbrev st_is_row : Stmt := top 9
abbrev st_check_within : Stmt := top 10
abbrev st_is_move : Stmt := top 14
abbrev st_is_move_of : Stmt := top 15
abbrev st_check_move : Stmt := top 16
abbrev st_check_move_of : Stmt := top 17
abbrev st_check_makers : Stmt := top 18
abbrev st_joined_moves : Stmt := top 19
abbrev st_undone_move : Stmt := top 20
abbrev st_joined : Stmt := top 21
abbrev st_undone : Stmt := top 22
abbrev st_closure : Stmt := top 23
abbrev st_closure_within : Stmt := top 24
abbrev st_orbits : Stmt := top 25
abbrev st__ways_from : Stmt := top 26
abbrev st__law_dice : Stmt := top 28
abbrev st__law_roll : Stmt := top 29
abbrev st__law_pick : Stmt := top 30
abbrev st__law_mixed : Stmt := top 31
abbrev st__law_joined : Stmt := top 32
abbrev st__law_drawn_move : Stmt := top 33
abbrev st__law_power : Stmt := top 34
abbrev st__law_closed_moves : Stmt := top 35
abbrev st__law_orbits : Stmt := top 36
abbrev st__law_makers : Stmt := top 37
abbrev st__law_right : Stmt := top 38
abbrev st_law : Stmt := top 39
section
variable {P : Program} {w : World} {K : PySem.W.Frag} {mg : Str → Option Value} {base : Heap}
theorem sc_is_integer : FnScope N_is_integer P_is_integer (defScope st_is_integer) := ⟨rfl, rfl, rfl, by decide +kernel, rfl, by decide +kernel, by decide +kernel⟩
theorem bs_is_integer : BindsAs "is_integer" st_is_integer P_is_integer := fun _ _ _ _ _ _ us hl => match us, hl with | [_], _ => rfl
theorem j_is_integer (B : Bl mg) {t_TOO_LONG : Tok} (c_TOO_LONG : mg "TOO_LONG" = some (.int 1000000000000000000000000000000000000000000000000000000000000 t_TOO_LONG)) : BodyCx P w K mg base "is_integer" st_is_integer N_is_integer 0 fun X => JSs X (defBody st_is_integer) g_is_integer := fun f cdv A outer s H E hr => js_cons (js_if ((jw_or (jt_not (jt_val (je_isi (tn := "int") B.isinstance B.int (by decide +kernel) (je_v 0)))) (jw_or1 (jt_val (je_isi (tn := "bool") B.isinstance B.bool (by decide +kernel) (je_v 0))))).jt) (js_one (js_ret (je_bl))) (js_nil)) (js_one (js_ret (je_chain opd_lt opd_lt (je_neg (je_globI c_TOO_LONG (by rfl))) (je_v 0) (je_globI c_TOO_LONG (by rfl)))))
theorem sc_is_within : FnScope N_is_within P_is_within (defScope st_is_within) := ⟨rfl, rfl, rfl, by decide +kernel, rfl, by decide +kernel, by decide +kernel⟩
theorem bs_is_within : BindsAs "is_within" st_is_within P_is_within := fun _ _ _ _ _ _ us hl => match us, hl with | [_, _, _], _ => rfl
theorem j_is_within (O_is_integer : Ok P w K mg base "is_integer" P_is_integer 1 (spD K 1 S_is_integer)) : BodyCx P w K mg base "is_within" st_is_within N_is_within 1 fun X => JSs X (defBody st_is_within) g_is_within := fun f cdv A outer s H E hr => js_one (js_ret (je_and (je_fn O_is_integer (hr.mono (by decide)) (ja_cons (je_v 0) (ja_nil))) (je_one (je_chain opd_le opd_le (je_v 1) (je_v 0) (je_v 2)))))
theorem sc_is_row : FnScope N_is_row P_is_row (defScope st_is_row) := ⟨rfl, rfl, rfl, by decide +kernel, rfl, by decide +kernel, by decide +kernel⟩
theorem bs_is_row : BindsAs "is_row" st_is_row P_is_row := fun _ _ _ _ _ _ us hl => match us, hl with | [_, _, _], _ => rfl
theorem j_is_row (B : Bl mg) : BodyCx P w K mg base "is_row" st_is_row N_is_row 0 fun X => JSs X (defBody st_is_row) g_is_row := fun f cdv A outer s H E hr => js_cons (js_if ((jw_or (jt_not (jt_val (je_isi (tn := "tuple") B.isinstance B.tuple (by decide +kernel) (je_v 0)))) (jw_or1 (jt_cmp (opd_ne hr.units) (je_callB calld_len B.len (by decide +kernel) (ja_cons (je_v 0) (ja_nil))) (je_v 1) (nomark _)))).jt) (js_one (js_ret (je_bl))) (js_nil)) (js_cons (js_for (vs := [3]) rfl (ji_sq (je_v 0)) (jg_n 3 sc_is_row.nd) (js_one (js_if ((jw_or (jt_not (jt_val (je_isi (tn := "int") B.isinstance B.int (by decide +kernel) (je_v 3)))) (jw_or (jt_val (je_isi (tn := "bool") B.isinstance B.bool (by decide +kernel) (je_v 3))) (jw_or1 (jt_not (jt_chain opd_le opd_lt (je_int) (je_v 3) (je_v 2)))))).jt) (js_one (js_ret (je_bl))) (js_nil)))) (js_one (js_ret (je_bl))))
theorem sc_check_within : FnScope N_check_within P_check_within (defScope st_check_within) := ⟨rfl, rfl, rfl, by decide +kernel, rfl, by decide +kernel, by decide +kernel⟩
theorem bs_check_within : BindsAs "check_within" st_check_within P_check_within := fun _ _ _ _ _ _ us hl => match us, hl with | [_, _, _], _ => rfl
theorem j_check_within (O_is_within : Ok P w K mg base "is_within" P_is_within 2 (spD K 3 S_is_within)) : BodyCx P w K mg base "check_within" st_check_within N_check_within 2 fun X => JSs X (defBody st_check_within) g_check_within := fun f cdv A outer s H E hr => js_one (js_if (jt_not (jt_val (je_fn O_is_within (hr.mono (by decide)) (ja_cons (je_v 0) (ja_cons (je_v 1) (ja_cons (je_v 2) (ja_nil))))))) (js_one (js_never)) (js_nil))
theorem sc_is_move : FnScope N_is_move P_is_move (defScope st_is_move) := ⟨rfl, rfl, rfl, by decide +kernel, rfl, by decide +kernel, by decide +kernel⟩
theorem bs_is_move : BindsAs "is_move" st_is_move P_is_move := fun _ _ _ _ _ _ us hl => match us, hl with | [_], _ => rfl
theorem j_is_move (B : Bl mg) {t_MAX_MOVED : Tok} (c_MAX_MOVED : mg "MAX_MOVED" = some (.int 24 t_MAX_MOVED)) (O_is_row : Ok P w K mg base "is_row" P_is_row 1 (spD K 3 S_is_row)) : BodyCx P w K mg base "is_move" st_is_move N_is_move 1 fun X => JSs X (defBody st_is_move) g_is_move := fun f cdv A outer s H E hr => js_cons (js_if ((jw_or (jt_not (jt_val (je_isi (tn := "tuple") B.isinstance B.tuple (by decide +kernel) (je_v 0)))) (jw_or1 (jt_cmp opd_gt (je_callB calld_len B.len (by decide +kernel) (ja_cons (je_v 0) (ja_nil))) (je_globI c_MAX_MOVED (by rfl)) (nomark _)))).jt) (js_one (js_ret (je_bl))) (js_nil)) (js_one (js_ret (je_and (je_fn O_is_row (hr.mono (by decide)) (ja_cons (je_v 0) (ja_cons (je_callB calld_len B.len (by decide +kernel) (ja_cons (je_v 0) (ja_nil))) (ja_cons (je_callB calld_len B.len (by decide +kernel) (ja_cons (je_v 0) (ja_nil))) (ja_nil))))) (je_one (je_cmp (opd_eq hr.units) (je_lenSet rfl B.len B.set (je_v 0)) (je_callB calld_len B.len (by decide +kernel) (ja_cons (je_v 0) (ja_nil))) (nomark _))))))
theorem sc_is_move_of : FnScope N_is_move_of P_is_move_of (defScope st_is_move_of) := ⟨rfl, rfl, rfl, by decide +kernel, rfl, by decide +kernel, by decide +kernel⟩
theorem bs_is_move_of : BindsAs "is_move_of" st_is_move_of P_is_move_of := fun _ _ _ _ _ _ us hl => match us, hl with | [_, _], _ => rfl
theorem j_is_move_of (B : Bl mg) (O_is_move : Ok P w K mg base "is_move" P_is_move 2 (spD K 1 S_is_move)) : BodyCx P w K mg base "is_move_of" st_is_move_of N_is_move_of 2 fun X => JSs X (defBody st_is_move_of) g_is_move_of := fun f cdv A outer s H E hr => js_one (js_ret (je_and (je_fn O_is_move (hr.mono (by decide)) (ja_cons (je_v 0) (ja_nil))) (je_one (je_cmp (opd_eq hr.units) (je_callB calld_len B.len (by decide +kernel) (ja_cons (je_v 0) (ja_nil))) (je_v 1) (nomark _)))))
theorem sc_check_move : FnScope N_check_move P_check_move (defScope st_check_move) := ⟨rfl, rfl, rfl, by decide +kernel, rfl, by decide +kernel, by decide +kernel⟩
theorem bs_check_move : BindsAs "check_move" st_check_move P_check_move := fun _ _ _ _ _ _ us hl => match us, hl with | [_], _ => rfl
theorem j_check_move (O_is_move : Ok P w K mg base "is_move" P_is_move 2 (spD K 1 S_is_move)) : BodyCx P w K mg base "check_move" st_check_move N_check_move 2 fun X => JSs X (defBody st_check_move) g_check_move := fun f cdv A outer s H E hr => js_one (js_if (jt_not (jt_val (je_fn O_is_move (hr.mono (by decide)) (ja_cons (je_v 0) (ja_nil))))) (js_one (js_never)) (js_nil))
theorem sc_check_move_of : FnScope N_check_move_of P_check_move_of (defScope st_check_move_of) := ⟨rfl, rfl, rfl, by decide +kernel, rfl, by decide +kernel, by decide +kernel⟩
theorem bs_check_move_of : BindsAs "check_move_of" st_check_move_of P_check_move_of := fun _ _ _ _ _ _ us hl => match us, hl with | [_, _], _ => rfl
theorem j_check_move_of (O_is_move_of : Ok P w K mg base "is_move_of" P_is_move_of 3 (spD K 2 S_is_move_of)) : BodyCx P w K mg base "check_move_of" st_check_move_of N_check_move_of 3 fun X => JSs X (defBody st_check_move_of) g_check_move_of := fun f cdv A outer s H E hr => js_one (js_if (jt_not (jt_val (je_fn O_is_move_of (hr.mono (by decide)) (ja_cons (je_v 0) (ja_cons (je_v 1) (ja_nil)))))) (js_one (js_never)) (js_nil))
theorem sc_check_makers : FnScope N_check_makers P_check_makers (defScope st_check_makers) := ⟨rfl, rfl, rfl, by decide +kernel, rfl, by decide +kernel, by decide +kernel⟩
theorem bs_check_makers : BindsAs "check_makers" st_check_makers P_check_makers := fun _ _ _ _ _ _ us hl => match us, hl with | [_, _], _ => rfl
theorem j_check_makers (B : Bl mg) {t_MAX_MOVED : Tok} (c_MAX_MOVED : mg "MAX_MOVED" = some (.int 24 t_MAX_MOVED)) (O_check_within : Ok P w K mg base "check_within" P_check_within 3 (spD K 3 S_check_within)) (O_check_move_of : Ok P w K mg base "check_move_of" P_check_move_of 4 (spD K 2 S_check_move_of)) : BodyCx P w K mg base "check_makers" st_check_makers N_check_makers 4 fun X => JSs X (defBody st_check_makers) g_check_makers := fun f cdv A outer s H E hr => js_cons (js_expr (je_fn O_check_within (hr.mono (by decide)) (ja_cons (je_v 0) (ja_cons (je_int) (ja_cons (je_globI c_MAX_MOVED (by rfl)) (ja_nil)))))) (js_cons (js_if ((jw_or (jt_not (jt_val (je_isi (tn := "tuple") B.isinstance B.tuple (by decide +kernel) (je_v 1)))) (jw_or1 (jt_cmp opd_gt (je_callB calld_len B.len (by decide +kernel) (ja_cons (je_v 1) (ja_nil))) (je_globI c_MAX_MOVED (by rfl)) (nomark _)))).jt) (js_one (js_never)) (js_nil)) (js_one (js_for (vs := [2]) rfl (ji_sq (je_v 1)) (jg_n 2 sc_check_makers.nd) (js_one (js_expr (je_fn O_check_move_of (hr.mono (by decide)) (ja_cons (je_v 2) (ja_cons (je_v 0) (ja_nil)))))))))
theorem sc_joined_moves : FnScope N_joined_moves P_joined_moves (defScope st_joined_moves) := ⟨rfl, rfl, rfl, by decide +kernel, rfl, by decide +kernel, by decide +kernel⟩
theorem bs_joined_moves : BindsAs "joined_moves" st_joined_moves P_joined_moves := fun _ _ _ _ _ _ us hl => match us, hl with | [_, _], _ => rfl
theorem j_joined_moves (B : Bl mg) : BodyCx P w K mg base "joined_moves" st_joined_moves N_joined_moves 0 fun X => JSs X (defBody st_joined_moves) g_joined_moves := fun f cdv A outer s H E hr => js_one (js_ret (je_callTy calld_tuple B.tuple (by decide +kernel) (ja_cons ((jl_lc (own := [("thing", 2)]) rfl sc_joined_moves.nd (ji_sq (je_v 1)) (blkOk_by (by rfl)) (fun _ _ _ _ _ => jg_n 2 sc_joined_moves.nd) (fun _ _ _ _ _ => jts_nil) (fun _ _ _ _ _ => je_ix (je_v 0) (je_v 2))).je) (ja_nil))))
theorem sc_undone_move : FnScope N_undone_move P_undone_move (defScope st_undone_move) := ⟨rfl, rfl, rfl, by decide +kernel, rfl, by decide +kernel, by decide +kernel⟩
theorem bs_undone_move : BindsAs "undone_move" st_undone_move P_undone_move := fun _ _ _ _ _ _ us hl => match us, hl with | [_], _ => rfl
theorem j_undone_move (B : Bl mg) : BodyCx P w K mg base "undone_move" st_undone_move N_undone_move 0 fun X => JSs X (defBody st_undone_move) g_undone_move := fun f cdv A outer s H E hr => js_cons (js_set (i := 1) ((je_dc (own := [("thing", 2), ("goal", 3)]) rfl sc_undone_move.nd (ji_en B.enumerate (je_v 0)) (blkOk_by (by rfl)) (fun _ _ _ _ _ => jg_tup rfl (jgs_cons (jg_n 2 sc_undone_move.nd) (jgs_cons (jg_n 3 sc_undone_move.nd) (jgs_nil)))) (fun _ _ _ _ _ => jts_nil) (fun _ _ _ _ _ => je_v 3) (fun _ _ _ _ _ => je_v 2)).jx) sc_undone_move.nd rfl (by first | exact Or.inl rfl | exact Or.inr rfl)) (js_one (js_ret (je_callTy calld_tuple B.tuple (by decide +kernel) (ja_cons ((jl_lc (own := [("thing", 2)]) rfl sc_undone_move.nd (ji_r1 B.range (je_callB calld_len B.len (by decide +kernel) (ja_cons (je_v 0) (ja_nil)))) (blkOk_by (by rfl)) (fun _ _ _ _ _ => jg_n 2 sc_undone_move.nd) (fun _ _ _ _ _ => jts_nil) (fun _ _ _ _ _ => je_getD (hu1 hr.units) (je_v 1) (je_v 2))).je) (ja_nil)))))
theorem sc_joined : FnScope N_joined P_joined (defScope st_joined) := ⟨rfl, rfl, rfl, by decide +kernel, rfl, by decide +kernel, by decide +kernel⟩
theorem bs_joined : BindsAs "joined" st_joined P_joined := fun _ _ _ _ _ _ us hl => match us, hl with | [_, _], _ => rfl
theorem j_joined (B : Bl mg) (O_check_move : Ok P w K mg base "check_move" P_check_move 3 (spD K 1 S_check_move)) (O_check_move_of : Ok P w K mg base "check_move_of" P_check_move_of 4 (spD K 2 S_check_move_of)) (O_joined_moves : Ok P w K mg base "joined_moves" P_joined_moves 1 (spD K 2 S_joined_moves)) : BodyCx P w K mg base "joined" st_joined N_joined 4 fun X => JSs X (defBody st_joined) g_joined := fun f cdv A outer s H E hr => js_cons (js_expr (je_fn O_check_move (hr.mono (by decide)) (ja_cons (je_v 0) (ja_nil)))) (js_cons (js_expr (je_fn O_check_move_of (hr.mono (by decide)) (ja_cons (je_v 1) (ja_cons (je_callB calld_len B.len (by decide +kernel) (ja_cons (je_v 0) (ja_nil))) (ja_nil))))) (js_one (js_ret (je_fn O_joined_moves (hr.mono (by decide)) (ja_cons (je_v 0) (ja_cons (je_v 1) (ja_nil)))))))
theorem sc_undone : FnScope N_undone P_undone (defScope st_undone) := ⟨rfl, rfl, rfl, by decide +kernel, rfl, by decide +kernel, by decide +kernel⟩
theorem bs_undone : BindsAs "undone" st_undone P_undone := fun _ _ _ _ _ _ us hl => match us, hl with | [_], _ => rfl
theorem j_undone (O_check_move : Ok P w K mg base "check_move" P_check_move 3 (spD K 1 S_check_move)) (O_undone_move : Ok P w K mg base "undone_move" P_undone_move 1 (spD K 1 S_undone_move)) : BodyCx P w K mg base "undone" st_undone N_undone 3 fun X => JSs X (defBody st_undone) g_undone := fun f cdv A outer s H E hr => js_cons (js_expr (je_fn O_check_move (hr.mono (by decide)) (ja_cons (je_v 0) (ja_nil)))) (js_one (js_ret (je_fn O_undone_move (hr.mono (by decide)) (ja_cons (je_v 0) (ja_nil)))))
theorem sc_closure_within : FnScope N_closure_within P_closure_within (defScope st_closure_within) := ⟨rfl, rfl, rfl, by decide +kernel, rfl, by decide +kernel, by decide +kernel⟩
theorem bs_closure_within : BindsAs "closure_within" st_closure_within P_closure_within := fun _ _ _ _ _ _ us hl => match us, hl with | [_, _, _], _ => rfl
theorem j_closure_within (B : Bl mg) (O_joined_moves : Ok P w K mg base "joined_moves" P_joined_moves 1 (spD K 2 S_joined_moves)) : BodyCx P w K mg base "closure_within" st_closure_within N_closure_within 1 fun X => JSs X (defBody st_closure_within) g_closure_within := fun f cdv A outer s H E hr => js_cons (js_set (i := 3) ((jl_lst (ja_cons (je_tupRg rfl B.tuple (jr_1 B.range (je_v 0))) (ja_nil))).jx) sc_closure_within.nd rfl (by first | exact Or.inl rfl | exact Or.inr rfl)) (js_cons (js_set (i := 4) (jx_dctT1 hr.units (je_ixP (i := 3) rfl (by first | exact Or.inl rfl | exact Or.inr (Or.inl rfl) | exact Or.inr (Or.inr rfl)) (je_int)) (je_bl)) sc_closure_within.nd rfl (by first | exact Or.inl rfl | exact Or.inr rfl)) (js_cons (js_set (i := 5) ((je_int).jx) sc_closure_within.nd rfl (by first | exact Or.inl rfl | exact Or.inr rfl)) (js_cons (js_while (jt_cmp opd_lt (je_v 5) (je_callBO calld_len B.len (by decide +kernel) (i := 3) rfl (by first | exact Or.inl rfl | exact Or.inr (Or.inl rfl) | exact Or.inr (Or.inr rfl))) (nomark _)) (js_cons (js_for (vs := [6]) rfl (ji_sq (je_v 1)) (jg_n 6 sc_closure_within.nd) (js_cons (js_set (i := 7) ((je_fn O_joined_moves (hr.mono (by decide)) (ja_cons (je_ixP (i := 3) rfl (by first | exact Or.inl rfl | exact Or.inr (Or.inl rfl) | exact Or.inr (Or.inr rfl)) (je_v 5)) (ja_cons (je_v 6) (ja_nil)))).jx) sc_closure_within.nd rfl (by first | exact Or.inl rfl | exact Or.inr rfl)) (js_one (js_if (jt_notinT (hu1 hr.units) (i := 4) rfl (by first | exact Or.inl rfl | exact Or.inr (Or.inl rfl) | exact Or.inr (Or.inr rfl)) (je_v 7) rfl) (js_cons (js_putT (hu1 hr.units) (i := 4) rfl (by first | exact Or.inl rfl | exact Or.inr (Or.inl rfl) | exact Or.inr (Or.inr rfl)) (je_v 7) (je_bl)) (js_one (js_expr (je_app (i := 3) rfl (by first | exact Or.inl rfl | exact Or.inr (Or.inl rfl) | exact Or.inr (Or.inr rfl)) (je_v 7))))) (js_nil))))) (js_cons (js_if (jt_cmp opd_gt (je_callBO calld_len B.len (by decide +kernel) (i := 3) rfl (by first | exact Or.inl rfl | exact Or.inr (Or.inl rfl) | exact Or.inr (Or.inr rfl))) (je_v 2) (nomark _)) (js_one (js_never)) (js_nil)) (js_one (js_augI (i := 5) sc_closure_within.nd rfl (by first | exact Or.inl rfl | exact Or.inr rfl) (je_int)))))) (js_one (js_ret (je_callTy calld_tuple B.tuple (by decide +kernel) (ja_cons ((jl_sortT2 B.sorted (je_vF 3)).je) (ja_nil))))))))
theorem sc__ways_from : FnScope N__ways_from P__ways_from (defScope st__ways_from) := ⟨rfl, rfl, rfl, by decide +kernel, rfl, by decide +kernel, by decide +kernel⟩
theorem bs__ways_from : BindsAs "_ways_from" st__ways_from P__ways_from := fun _ _ _ _ _ _ us hl => match us, hl with | [_, _], _ => rfl
theorem j__ways_from (B : Bl mg) : BodyCx P w K mg base "_ways_from" st__ways_from N__ways_from 0 fun X => JSs X (defBody st__ways_from) g__ways_from := fun f cdv A outer s H E hr => js_cons (js_set (i := 2) (jx_dct1 (je_v 1) (je_tup (ja_nil))) sc__ways_from.nd rfl (by first | exact Or.inl rfl | exact Or.inr rfl)) (js_cons (js_set (i := 3) ((jl_lst (ja_cons (je_v 1) (ja_nil))).jx) sc__ways_from.nd rfl (by first | exact Or.inl rfl | exact Or.inr rfl)) (js_cons (js_set (i := 4) ((je_int).jx) sc__ways_from.nd rfl (by first | exact Or.inl rfl | exact Or.inr rfl)) (js_cons (js_while (jt_cmp opd_lt (je_v 4) (je_callBO calld_len B.len (by decide +kernel) (i := 3) rfl (by first | exact Or.inl rfl | exact Or.inr (Or.inl rfl) | exact Or.inr (Or.inr rfl))) (nomark _)) (js_cons (js_set (i := 5) ((je_ixP (i := 3) rfl (by first | exact Or.inl rfl | exact Or.inr (Or.inl rfl) | exact Or.inr (Or.inr rfl)) (je_v 4)).jx) sc__ways_from.nd rfl (by first | exact Or.inl rfl | exact Or.inr rfl)) (js_cons (js_for (vs := [6, 7]) rfl (ji_en B.enumerate (je_v 0)) (jg_tup rfl (jgs_cons (jg_n 6 sc__ways_from.nd) (jgs_cons (jg_n 7 sc__ways_from.nd) (jgs_nil)))) (js_one (js_if (jt_notinK (hu1 hr.units) (i := 2) rfl (by first | exact Or.inl rfl | exact Or.inr (Or.inl rfl) | exact Or.inr (Or.inr rfl)) (je_ix (je_v 7) (je_v 5)) rfl) (js_cons (js_putK (hu1 hr.units) (i := 2) rfl (by first | exact Or.inl rfl | exact Or.inr (Or.inl rfl) | exact Or.inr (Or.inr rfl)) (je_ix (je_v 7) (je_v 5)) (je_bin opd_add (je_getK (hu1 hr.units) (i := 2) rfl (by first | exact Or.inl rfl | exact Or.inr (Or.inl rfl) | exact Or.inr (Or.inr rfl)) (je_v 5)) (je_tup (ja_cons (je_v 6) (ja_nil))))) (js_one (js_expr (je_app (i := 3) rfl (by first | exact Or.inl rfl | exact Or.inr (Or.inl rfl) | exact Or.inr (Or.inr rfl)) (je_ix (je_v 7) (je_v 5)))))) (js_nil)))) (js_one (js_augI (i := 4) sc__ways_from.nd rfl (by first | exact Or.inl rfl | exact Or.inr rfl) (je_int)))))) (js_one (js_retK (i := 2) rfl (by first | exact Or.inl rfl | exact Or.inr (Or.inl rfl) | exact Or.inr (Or.inr rfl)))))))
theorem sc__law_dice : FnScope N__law_dice P__law_dice (defScope st__law_dice) := ⟨rfl, rfl, rfl, by decide +kernel, rfl, by decide +kernel, by decide +kernel⟩
theorem bs__law_dice : BindsAs "_law_dice" st__law_dice P__law_dice := fun _ _ _ _ _ _ us hl => match us, hl with | [_, _], _ => rfl
theorem j__law_dice (B : Bl mg) : BodyCx P w K mg base "_law_dice" st__law_dice N__law_dice 0 fun X => JSL X (defBody st__law_dice) g__law_dice := fun f cdv A outer s H E hr => jsl_cons (js_set (i := 2) ((je_if (jt_cmp opd_lt (je_v 1) (je_callB calld_len B.len (by decide +kernel) (ja_cons (je_v 0) (ja_nil))) (nomark _)) (je_callTy calld_int B.int (by decide +kernel) (ja_cons (je_ix (je_v 0) (je_v 1)) (ja_nil))) (je_bin opd_add (je_bin opd_mulA (je_int) (je_v 1)) (je_int))).jx) sc__law_dice.nd rfl (by first | exact Or.inl rfl | exact Or.inr rfl)) (jsl_cons (js_set (i := 3) ((je_bin opd_mod (je_callB (calld_max2 rfl) B.max (by decide +kernel) (ja_cons (je_int) (ja_cons (je_bin opd_sub (je_callB calld_abs B.abs (by decide +kernel) (ja_cons (je_v 2) (ja_nil))) (je_bin opd_pow (je_int) (je_int))) (ja_nil)))) (je_bin opd_mulA (je_bin opd_pow (je_int) (je_int)) (je_bin opd_pow (je_int) (je_int)))).jx) sc__law_dice.nd rfl (by first | exact Or.inl rfl | exact Or.inr rfl)) (jsl_ret (jl_lst (ja_cons (je_v 3) (ja_cons (je_bin opd_add (je_bin opd_add (je_bin opd_add (je_bin opd_mulA (je_bin opd_mod (je_callB calld_abs B.abs (by decide +kernel) (ja_cons (je_v 2) (ja_nil))) (je_int)) (je_int)) (je_bin opd_mulA (je_int) (je_v 1))) (je_bin opd_mulA (je_int) (je_callTy calld_int B.int (by decide +kernel) (ja_cons (je_cmp opd_lt (je_v 2) (je_int) (nomark _)) (ja_nil))))) (je_int)) (ja_cons (je_int) (ja_nil)))))))
theorem sc__law_roll : FnScope N__law_roll P__law_roll (defScope st__law_roll) := ⟨rfl, rfl, rfl, by decide +kernel, rfl, by decide +kernel, by decide +kernel⟩
theorem bs__law_roll : BindsAs "_law_roll" st__law_roll P__law_roll := fun _ _ _ _ _ _ us hl => match us, hl with | [_, _], _ => rfl
theorem j__law_roll (B : Bl mg) : BodyCx P w K mg base "_law_roll" st__law_roll N__law_roll 0 fun X => JSs X (defBody st__law_roll) g__law_roll := fun f cdv A outer s H E hr => js_cons (js_if (jt_cmp opd_gt (je_ixP (i := 0) rfl (by first | exact Or.inl rfl | exact Or.inr (Or.inl rfl) | exact Or.inr (Or.inr rfl)) (je_int)) (je_int) (nomark _)) (js_cons (js_set (i := 2) ((je_bin opd_mod (je_callTy calld_int B.int (by decide +kernel) (ja_cons (je_ixP (i := 0) rfl (by first | exact Or.inl rfl | exact Or.inr (Or.inl rfl) | exact Or.inr (Or.inr rfl)) (je_int)) (ja_nil))) (je_v 1)).jx) sc__law_roll.nd rfl (by first | exact Or.inl rfl | exact Or.inr rfl)) (js_cons (js_sub (i := 0) rfl (by first | exact Or.inl rfl | exact Or.inr (Or.inl rfl) | exact Or.inr (Or.inr rfl)) (je_int) (je_bin opd_fdiv (je_ixP (i := 0) rfl (by first | exact Or.inl rfl | exact Or.inr (Or.inl rfl) | exact Or.inr (Or.inr rfl)) (je_int)) (je_v 1))) (js_one (js_ret (je_v 2))))) (js_nil)) (js_cons (js_sub (i := 0) rfl (by first | exact Or.inl rfl | exact Or.inr (Or.inl rfl) | exact Or.inr (Or.inr rfl)) (je_int) (je_bin opd_add (je_ixP (i := 0) rfl (by first | exact Or.inl rfl | exact Or.inr (Or.inl rfl) | exact Or.inr (Or.inr rfl)) (je_int)) (je_int))) (js_cons (js_set (i := 3) ((je_bin opd_mod (je_callTy calld_int B.int (by decide +kernel) (ja_cons (je_bin opd_add (je_ixP (i := 0) rfl (by first | exact Or.inl rfl | exact Or.inr (Or.inl rfl) | exact Or.inr (Or.inr rfl)) (je_int)) (je_bin opd_mulA (je_int) (je_ixP (i := 0) rfl (by first | exact Or.inl rfl | exact Or.inr (Or.inl rfl) | exact Or.inr (Or.inr rfl)) (je_int)))) (ja_nil))) (je_int)).jx) sc__law_roll.nd rfl (by first | exact Or.inl rfl | exact Or.inr rfl)) (js_cons (js_set (i := 4) ((je_bin opd_add (je_bin opd_mulA (je_bin opd_mod (je_callTy calld_int B.int (by decide +kernel) (ja_cons (je_bin opd_add (je_bin opd_mulA (je_v 3) (je_v 3)) (je_bin opd_mulA (je_int) (je_ixP (i := 0) rfl (by first | exact Or.inl rfl | exact Or.inr (Or.inl rfl) | exact Or.inr (Or.inr rfl)) (je_int)))) (ja_nil))) (je_int)) (je_int)) (je_v 3)).jx) sc__law_roll.nd rfl (by first | exact Or.inl rfl | exact Or.inr rfl)) (js_one (js_ret (je_bin opd_mod (je_callTy calld_int B.int (by decide +kernel) (ja_cons (je_bin opd_fdiv (je_v 4) (je_int)) (ja_nil))) (je_v 1)))))))
theorem sc__law_pick : FnScope N__law_pick P__law_pick (defScope st__law_pick) := ⟨rfl, rfl, rfl, by decide +kernel, rfl, by decide +kernel, by decide +kernel⟩
theorem bs__law_pick : BindsAs "_law_pick" st__law_pick P__law_pick := fun _ _ _ _ _ _ us hl => match us, hl with | [_, _], _ => rfl
theorem j__law_pick (B : Bl mg) (O__law_roll : Ok P w K mg base "_law_roll" P__law_roll 1 (spM K 2 S__law_roll)) : BodyCx P w K mg base "_law_pick" st__law_pick N__law_pick 1 fun X => JSs X (defBody st__law_pick) g__law_pick := fun f cdv A outer s H E hr => js_one (js_ret (je_ix (je_v 1) (je_fnM O__law_roll (hr.mono (by decide)) (i := 0) rfl (by first | exact Or.inl rfl | exact Or.inr (Or.inl rfl) | exact Or.inr (Or.inr rfl)) (ja_cons (je_callB calld_len B.len (by decide +kernel) (ja_cons (je_v 1) (ja_nil))) (ja_nil)))))
theorem sc__law_mixed : FnScope N__law_mixed P__law_mixed (defScope st__law_mixed) := ⟨rfl, rfl, rfl, by decide +kernel, rfl, by decide +kernel, by decide +kernel⟩
theorem bs__law_mixed : BindsAs "_law_mixed" st__law_mixed P__law_mixed := fun _ _ _ _ _ _ us hl => match us, hl with | [_, _], _ => rfl
theorem j__law_mixed (B : Bl mg) (O__law_roll : Ok P w K mg base "_law_roll" P__law_roll 1 (spM K 2 S__law_roll)) : BodyCx P w K mg base "_law_mixed" st__law_mixed N__law_mixed 1 fun X => JSs X (defBody st__law_mixed) g__law_mixed := fun f cdv A outer s H E hr => js_cons (js_par (i := 2) (j := 3) rfl sc__law_mixed.nd rfl rfl (by decide) rfl rfl ((jl_list B.list (je_v 1)).jx) ((jl_lst (ja_nil)).jx) rfl) (js_cons (js_for (vs := [4]) rfl (ji_r1 B.range (je_callB calld_len B.len (by decide +kernel) (ja_cons (je_v 1) (ja_nil)))) (jg_n 4 sc__law_mixed.nd) (js_one (js_expr (je_app (i := 3) rfl (by first | exact Or.inl rfl | exact Or.inr (Or.inl rfl) | exact Or.inr (Or.inr rfl)) (je_popAt (i := 2) rfl (by first | exact Or.inl rfl | exact Or.inr (Or.inl rfl) | exact Or.inr (Or.inr rfl)) (je_fnM O__law_roll (hr.mono (by decide)) (i := 0) rfl (by first | exact Or.inl rfl | exact Or.inr (Or.inl rfl) | exact Or.inr (Or.inr rfl)) (ja_cons (je_callBO calld_len B.len (by decide +kernel) (i := 2) rfl (by first | exact Or.inl rfl | exact Or.inr (Or.inl rfl) | exact Or.inr (Or.inr rfl))) (ja_nil)))))))) (js_one (js_retO (i := 3) rfl (by first | exact Or.inl rfl | exact Or.inr (Or.inl rfl) | exact Or.inr (Or.inr rfl)))))
theorem sc__law_joined : FnScope N__law_joined P__law_joined (defScope st__law_joined) := ⟨rfl, rfl, rfl, by decide +kernel, rfl, by decide +kernel, by decide +kernel⟩
theorem bs__law_joined : BindsAs "_law_joined" st__law_joined P__law_joined := fun _ _ _ _ _ _ us hl => match us, hl with | [_, _], _ => rfl
theorem j__law_joined (B : Bl mg) : BodyCx P w K mg base "_law_joined" st__law_joined N__law_joined 0 fun X => JSs X (defBody st__law_joined) g__law_joined := fun f cdv A outer s H E hr => js_one (js_ret (je_callTy calld_tuple B.tuple (by decide +kernel) (ja_cons ((jl_lc (own := [("_law_thing", 2)]) rfl sc__law_joined.nd (ji_sq (je_v 1)) (blkOk_by (by rfl)) (fun _ _ _ _ _ => jg_n 2 sc__law_joined.nd) (fun _ _ _ _ _ => jts_nil) (fun _ _ _ _ _ => je_ix (je_v 0) (je_v 2))).je) (ja_nil))))
theorem sc__law_drawn_move : FnScope N__law_drawn_move P__law_drawn_move (defScope st__law_drawn_move) := ⟨rfl, rfl, rfl, by decide +kernel, rfl, by decide +kernel, by decide +kernel⟩
theorem bs__law_drawn_move : BindsAs "_law_drawn_move" st__law_drawn_move P__law_drawn_move := fun _ _ _ _ _ _ us hl => match us, hl with | [_, _], _ => rfl
theorem j__law_drawn_move (B : Bl mg) (O__law_mixed : Ok P w K mg base "_law_mixed" P__law_mixed 2 (spM K 2 S__law_mixed)) : BodyCx P w K mg base "_law_drawn_move" st__law_drawn_move N__law_drawn_move 2 fun X => JSs X (defBody st__law_drawn_move) g__law_drawn_move := fun f cdv A outer s H E hr => js_one (js_ret (je_callTy calld_tuple B.tuple (by decide +kernel) (ja_cons (je_fnM O__law_mixed (hr.mono (by decide)) (i := 0) rfl (by first | exact Or.inl rfl | exact Or.inr (Or.inl rfl) | exact Or.inr (Or.inr rfl)) (ja_cons ((jl_rg rfl B.list (jr_1 B.range (je_v 1))).je) (ja_nil))) (ja_nil))))
theorem sc__law_power : FnScope N__law_power P__law_power (defScope st__law_power) := ⟨rfl, rfl, rfl, by decide +kernel, rfl, by decide +kernel, by decide +kernel⟩
theorem bs__law_power : BindsAs "_law_power" st__law_power P__law_power := fun _ _ _ _ _ _ us hl => match us, hl with | [_, _], _ => rfl
theorem j__law_power (B : Bl mg) (O__law_joined : Ok P w K mg base "_law_joined" P__law_joined 1 (spD K 2 S__law_joined)) : BodyCx P w K mg base "_law_power" st__law_power N__law_power 1 fun X => JSs X (defBody st__law_power) g__law_power := fun f cdv A outer s H E hr => js_cons (js_set (i := 2) ((je_tupRg rfl B.tuple (jr_1 B.range (je_callB calld_len B.len (by decide +kernel) (ja_cons (je_v 0) (ja_nil))))).jx) sc__law_power.nd rfl (by first | exact Or.inl rfl | exact Or.inr rfl)) (js_cons (js_for (vs := [3]) rfl (ji_r1 B.range (je_v 1)) (jg_n 3 sc__law_power.nd) (js_one (js_set (i := 2) ((je_fn O__law_joined (hr.mono (by decide)) (ja_cons (je_v 0) (ja_cons (je_v 2) (ja_nil)))).jx) sc__law_power.nd rfl (by first | exact Or.inl rfl | exact Or.inr rfl)))) (js_one (js_ret (je_v 2))))
theorem sc__law_closed_moves : FnScope N__law_closed_moves P__law_closed_moves (defScope st__law_closed_moves) := ⟨rfl, rfl, rfl, by decide +kernel, rfl, by decide +kernel, by decide +kernel⟩
theorem bs__law_closed_moves : BindsAs "_law_closed_moves" st__law_closed_moves P__law_closed_moves := fun _ _ _ _ _ _ us hl => match us, hl with | [_, _], _ => rfl
theorem j__law_closed_moves (B : Bl mg) (O__law_joined : Ok P w K mg base "_law_joined" P__law_joined 1 (spD K 2 S__law_joined)) : BodyCx P w K mg base "_law_closed_moves" st__law_closed_moves N__law_closed_moves 1 fun X => JSs X (defBody st__law_closed_moves) g__law_closed_moves := fun f cdv A outer s H E hr => js_cons (js_par (i := 2) (j := 3) rfl sc__law_closed_moves.nd rfl rfl (by decide) rfl rfl (jx_dctT1 hr.units (je_tupRg rfl B.tuple (jr_1 B.range (je_v 0))) (je_bl)) ((jl_lst (ja_cons (je_tupRg rfl B.tuple (jr_1 B.range (je_v 0))) (ja_nil))).jx) rfl) (js_cons (js_while (jt_cmpO (opd_ne hr.units) (i := 3) rfl (by first | exact Or.inl rfl | exact Or.inr (Or.inl rfl) | exact Or.inr (Or.inr rfl)) ((jl_lst (ja_nil)).je) (nomark _)) (js_cons (js_set (i := 4) ((je_pop (i := 3) rfl (by first | exact Or.inl rfl | exact Or.inr (Or.inl rfl) | exact Or.inr (Or.inr rfl))).jx) sc__law_closed_moves.nd rfl (by first | exact Or.inl rfl | exact Or.inr rfl)) (js_one (js_for (vs := [5]) rfl (ji_sq (je_v 1)) (jg_n 5 sc__law_closed_moves.nd) (js_cons (js_set (i := 6) ((je_fn O__law_joined (hr.mono (by decide)) (ja_cons (je_v 5) (ja_cons (je_v 4) (ja_nil)))).jx) sc__law_closed_moves.nd rfl (by first | exact Or.inl rfl | exact Or.inr rfl)) (js_one (js_if (jt_notinT (hu1 hr.units) (i := 2) rfl (by first | exact Or.inl rfl | exact Or.inr (Or.inl rfl) | exact Or.inr (Or.inr rfl)) (je_v 6) rfl) (js_cons (js_putT (hu1 hr.units) (i := 2) rfl (by first | exact Or.inl rfl | exact Or.inr (Or.inl rfl) | exact Or.inr (Or.inr rfl)) (je_v 6) (je_bl)) (js_one (js_expr (je_app (i := 3) rfl (by first | exact Or.inl rfl | exact Or.inr (Or.inl rfl) | exact Or.inr (Or.inr rfl)) (je_v 6))))) (js_nil)))))))) (js_one (js_ret ((jl_sortDT (i := 2) rfl B.sorted rfl (by first | exact Or.inl rfl | exact Or.inr (Or.inl rfl) | exact Or.inr (Or.inr rfl))).je))))
theorem sc__law_orbits : FnScope N__law_orbits P__law_orbits (defScope st__law_orbits) := ⟨rfl, rfl, rfl, by decide +kernel, rfl, by decide +kernel, by decide +kernel⟩
theorem bs__law_orbits : BindsAs "_law_orbits" st__law_orbits P__law_orbits := fun _ _ _ _ _ _ us hl => match us, hl with | [_, _], _ => rfl
theorem j__law_orbits (B : Bl mg) : BodyCx P w K mg base "_law_orbits" st__law_orbits N__law_orbits 0 fun X => JSs X (defBody st__law_orbits) g__law_orbits := fun f cdv A outer s H E hr => js_cons (js_set (i := 2) ((jl_lst (ja_nil)).jx) sc__law_orbits.nd rfl (by first | exact Or.inl rfl | exact Or.inr rfl)) (js_cons (js_for (vs := [3]) rfl (ji_r1 B.range (je_v 0)) (jg_n 3 sc__law_orbits.nd) (js_one (js_if (jt_not (jt_keep (i := 2) (jt_val (je_callB (calld_any rfl) B.any (by decide +kernel) (ja_cons ((jl_lc (own := [("_law_lot", 4)]) rfl sc__law_orbits.nd (ji_sq (je_v 2)) (blkOk_by (by rfl)) (fun _ _ _ _ _ => jg_n 4 sc__law_orbits.nd) (fun _ _ _ _ _ => jts_nil) (fun _ _ _ _ _ => je_cmp opd_in (je_v 3) (je_v 4) rfl)).je) (ja_nil)))))) (js_cons (js_par (i := 4) (j := 5) rfl sc__law_orbits.nd rfl rfl (by decide) rfl rfl ((jl_lst (ja_cons (je_v 3) (ja_nil))).jx) ((jl_lst (ja_cons (je_v 3) (ja_nil))).jx) rfl) (js_cons (js_while (jt_cmpO (opd_ne hr.units) (i := 5) rfl (by first | exact Or.inl rfl | exact Or.inr (Or.inl rfl) | exact Or.inr (Or.inr rfl)) ((jl_lst (ja_nil)).je) (nomark _)) (js_cons (js_set (i := 6) ((je_pop (i := 5) rfl (by first | exact Or.inl rfl | exact Or.inr (Or.inl rfl) | exact Or.inr (Or.inr rfl))).jx) sc__law_orbits.nd rfl (by first | exact Or.inl rfl | exact Or.inr rfl)) (js_one (js_for (vs := [7]) rfl (ji_sq (je_v 1)) (jg_n 7 sc__law_orbits.nd) (js_one (js_if (jt_cmpR opd_notin (i := 4) rfl (by first | exact Or.inl rfl | exact Or.inr (Or.inl rfl) | exact Or.inr (Or.inr rfl)) (je_ix (je_v 7) (je_v 6)) rfl) (js_cons (js_expr (je_app (i := 4) rfl (by first | exact Or.inl rfl | exact Or.inr (Or.inl rfl) | exact Or.inr (Or.inr rfl)) (je_ix (je_v 7) (je_v 6)))) (js_one (js_expr (je_app (i := 5) rfl (by first | exact Or.inl rfl | exact Or.inr (Or.inl rfl) | exact Or.inr (Or.inr rfl)) (je_ix (je_v 7) (je_v 6)))))) (js_nil))))))) (js_one (js_expr (je_app (i := 2) rfl (by first | exact Or.inl rfl | exact Or.inr (Or.inl rfl) | exact Or.inr (Or.inr rfl)) (je_callTy calld_tuple B.tuple (by decide +kernel) (ja_cons ((jl_sort B.sorted (je_vF 4)).je) (ja_nil)))))))) (js_nil)))) (js_one (js_ret (je_tupleO B.tuple (i := 2) rfl (by first | exact Or.inl rfl | exact Or.inr (Or.inl rfl) | exact Or.inr (Or.inr rfl))))))
theorem sc__law_makers : FnScope N__law_makers P__law_makers (defScope st__law_makers) := ⟨rfl, rfl, rfl, by decide +kernel, rfl, by decide +kernel, by decide +kernel⟩
theorem bs__law_makers : BindsAs "_law_makers" st__law_makers P__law_makers := fun _ _ _ _ _ _ us hl => match us, hl with | [_, _], _ => rfl
theorem j__law_makers (B : Bl mg) (O__law_roll : Ok P w K mg base "_law_roll" P__law_roll 1 (spM K 2 S__law_roll)) (O__law_drawn_move : Ok P w K mg base "_law_drawn_move" P__law_drawn_move 3 (spM K 2 S__law_drawn_move)) (O__law_power : Ok P w K mg base "_law_power" P__law_power 2 (spD K 2 S__law_power)) (O__law_pick : Ok P w K mg base "_law_pick" P__law_pick 2 (spM K 2 S__law_pick)) : BodyCx P w K mg base "_law_makers" st__law_makers N__law_makers 3 fun X => JSs X (defBody st__law_makers) g__law_makers := fun f cdv A outer s H E hr => js_cons (js_set (i := 2) ((jl_lst (ja_nil)).jx) sc__law_makers.nd rfl (by first | exact Or.inl rfl | exact Or.inr rfl)) (js_cons (js_for (vs := [3]) rfl (ji_r1 B.range (je_fnM O__law_roll (hr.mono (by decide)) (i := 0) rfl (by first | exact Or.inl rfl | exact Or.inr (Or.inl rfl) | exact Or.inr (Or.inr rfl)) (ja_cons (je_int) (ja_nil)))) (jg_n 3 sc__law_makers.nd) (js_cons (js_set (i := 4) ((je_fnM O__law_drawn_move (hr.mono (by decide)) (i := 0) rfl (by first | exact Or.inl rfl | exact Or.inr (Or.inl rfl) | exact Or.inr (Or.inr rfl)) (ja_cons (je_v 1) (ja_nil))).jx) sc__law_makers.nd rfl (by first | exact Or.inl rfl | exact Or.inr rfl)) (js_cons (js_if ((jw_and (jt_cmpO (opd_ne hr.units) (i := 2) rfl (by first | exact Or.inl rfl | exact Or.inr (Or.inl rfl) | exact Or.inr (Or.inr rfl)) ((jl_lst (ja_nil)).je) (nomark _)) (jw_and1 (jt_cmp (opd_eq hr.units) (je_fnM O__law_roll (hr.mono (by decide)) (i := 0) rfl (by first | exact Or.inl rfl | exact Or.inr (Or.inl rfl) | exact Or.inr (Or.inr rfl)) (ja_cons (je_int) (ja_nil))) (je_int) (nomark _)))).jt) (js_one (js_set (i := 4) ((je_fn O__law_power (hr.mono (by decide)) (ja_cons (je_callMO O__law_pick (hr.mono (by decide)) (i := 0) (j := 2) rfl (by first | exact Or.inl rfl | exact Or.inr (Or.inl rfl) | exact Or.inr (Or.inr rfl)) rfl (by first | exact Or.inl rfl | exact Or.inr (Or.inl rfl) | exact Or.inr (Or.inr rfl))) (ja_cons (je_fnM O__law_roll (hr.mono (by decide)) (i := 0) rfl (by first | exact Or.inl rfl | exact Or.inr (Or.inl rfl) | exact Or.inr (Or.inr rfl)) (ja_cons (je_int) (ja_nil))) (ja_nil)))).jx) sc__law_makers.nd rfl (by first | exact Or.inl rfl | exact Or.inr rfl))) (js_nil)) (js_one (js_expr (je_app (i := 2) rfl (by first | exact Or.inl rfl | exact Or.inr (Or.inl rfl) | exact Or.inr (Or.inr rfl)) (je_v 4))))))) (js_one (js_ret (je_tupleO B.tuple (i := 2) rfl (by first | exact Or.inl rfl | exact Or.inr (Or.inl rfl) | exact Or.inr (Or.inr rfl))))))
theorem sc_closure : FnScope N_closure P_closure (defScope st_closure) := ⟨rfl, rfl, rfl, by decide +kernel, rfl, by decide +kernel, by decide +kernel⟩
theorem bs_closure : BindsAs "closure" st_closure P_closure := fun _ _ _ _ _ _ us hl => match us, hl with | [_, _], _ => rfl
theorem j_closure {t_MAX_CLOSURE : Tok} (c_MAX_CLOSURE : mg "MAX_CLOSURE" = some (.int 1000 t_MAX_CLOSURE)) (O_check_makers : Ok P w K mg base "check_makers" P_check_makers 5 (spD K 2 S_check_makers)) (O_closure_within : Ok P w K mg base "closure_within" P_closure_within 2 (spD K 3 S_closure_within)) : BodyCx P w K mg base "closure" st_closure N_closure 5 fun X => JSs X (defBody st_closure) g_closure := fun f cdv A outer s H E hr => js_cons (js_expr (je_fn O_check_makers (hr.mono (by decide)) (ja_cons (je_v 0) (ja_cons (je_v 1) (ja_nil))))) (js_one (js_ret (je_fn O_closure_within (hr.mono (by decide)) (ja_cons (je_v 0) (ja_cons (je_v 1) (ja_cons (je_globI c_MAX_CLOSURE (by rfl)) (ja_nil)))))))
theorem sc_orbits : FnScope N_orbits P_orbits (defScope st_orbits) := ⟨rfl, rfl, rfl, by decide +kernel, rfl, by decide +kernel, by decide +kernel⟩
theorem bs_orbits : BindsAs "orbits" st_orbits P_orbits := fun _ _ _ _ _ _ us hl => match us, hl with | [_, _], _ => rfl
theorem j_orbits (B : Bl mg) (O_check_makers : Ok P w K mg base "check_makers" P_check_makers 5 (spD K 2 S_check_makers)) (O__ways_from : Ok P w K mg base "_ways_from" P__ways_from 1 (spD K 2 S__ways_from)) : BodyCx P w K mg base "orbits" st_orbits N_orbits 5 fun X => JSs X (defBody st_orbits) g_orbits := fun f cdv A outer s H E hr => js_cons (js_expr (je_fn O_check_makers (hr.mono (by decide)) (ja_cons (je_v 0) (ja_cons (je_v 1) (ja_nil))))) (js_cons (js_set (i := 2) (jx_dct0) sc_orbits.nd rfl (by first | exact Or.inl rfl | exact Or.inr rfl)) (js_cons (js_set (i := 3) ((jl_lst (ja_nil)).jx) sc_orbits.nd rfl (by first | exact Or.inl rfl | exact Or.inr rfl)) (js_cons (js_for (vs := [4]) rfl (ji_r1 B.range (je_v 0)) (jg_n 4 sc_orbits.nd) (js_one (js_if (jt_notinK (hu1 hr.units) (i := 2) rfl (by first | exact Or.inl rfl | exact Or.inr (Or.inl rfl) | exact Or.inr (Or.inr rfl)) (je_v 4) rfl) (js_cons (js_set (i := 5) (((jl_sort B.sorted ((jl_keys rfl B.list (je_fn O__ways_from (hr.mono (by decide)) (ja_cons (je_v 1) (ja_cons (je_v 4) (ja_nil))))).je)).je).jx) sc_orbits.nd rfl (by first | exact Or.inl rfl | exact Or.inr rfl)) (js_cons (js_for (vs := [6]) rfl (ji_sq (je_v 5)) (jg_n 6 sc_orbits.nd) (js_one (js_putK (hu1 hr.units) (i := 2) rfl (by first | exact Or.inl rfl | exact Or.inr (Or.inl rfl) | exact Or.inr (Or.inr rfl)) (je_v 6) (je_bl)))) (js_one (js_expr (je_app (i := 3) rfl (by first | exact Or.inl rfl | exact Or.inr (Or.inl rfl) | exact Or.inr (Or.inr rfl)) (je_callTy calld_tuple B.tuple (by decide +kernel) (ja_cons (je_v 5) (ja_nil)))))))) (js_nil)))) (js_one (js_ret (je_tupleO B.tuple (i := 3) rfl (by first | exact Or.inl rfl | exact Or.inr (Or.inl rfl) | exact Or.inr (Or.inr rfl))))))))
theorem sc__law_right : FnScope N__law_right P__law_right (defScope st__law_right) := ⟨rfl, rfl, rfl, by decide +kernel, rfl, by decide +kernel, by decide +kernel⟩
theorem bs__law_right : BindsAs "_law_right" st__law_right P__law_right := fun _ _ _ _ _ _ us hl => match us, hl with | [_, _], _ => rfl
theorem j__law_right (B : Bl mg) (O__law_makers : Ok P w K mg base "_law_makers" P__law_makers 4 (spM K 2 S__law_makers)) (O_closure : Ok P w K mg base "closure" P_closure 6 (spD K 2 S_closure)) (O__law_closed_moves : Ok P w K mg base "_law_closed_moves" P__law_closed_moves 2 (spD K 2 S__law_closed_moves)) (O__law_mixed : Ok P w K mg base "_law_mixed" P__law_mixed 2 (spM K 2 S__law_mixed)) (O__law_pick : Ok P w K mg base "_law_pick" P__law_pick 2 (spM K 2 S__law_pick)) (O_joined : Ok P w K mg base "joined" P_joined 5 (spD K 2 S_joined)) (O_undone : Ok P w K mg base "undone" P_undone 4 (spD K 1 S_undone)) (O_orbits : Ok P w K mg base "orbits" P_orbits 6 (spD K 2 S_orbits)) (O__law_orbits : Ok P w K mg base "_law_orbits" P__law_orbits 1 (spD K 2 S__law_orbits)) : BodyCx P w K mg base "_law_right" st__law_right N__law_right 6 fun X => JSs X (defBody st__law_right) g__law_right := fun f cdv A outer s H E hr => js_cons (js_set (i := 2) ((je_fnM O__law_makers (hr.mono (by decide)) (i := 0) rfl (by first | exact Or.inl rfl | exact Or.inr (Or.inl rfl) | exact Or.inr (Or.inr rfl)) (ja_cons (je_v 1) (ja_nil))).jx) sc__law_right.nd rfl (by first | exact Or.inl rfl | exact Or.inr rfl)) (js_cons (js_par (i := 3) (j := 4) rfl sc__law_right.nd rfl rfl (by decide) rfl rfl ((je_fn O_closure (hr.mono (by decide)) (ja_cons (je_v 1) (ja_cons (je_v 2) (ja_nil)))).jx) ((je_fn O__law_closed_moves (hr.mono (by decide)) (ja_cons (je_v 1) (ja_cons (je_v 2) (ja_nil)))).jx) rfl) (js_cons (js_if ((jw_or (jt_not (jt_val (je_isi (tn := "tuple") B.isinstance B.tuple (by decide +kernel) (je_v 3)))) (jw_or (jt_cmp (opd_ne hr.units) ((jl_list B.list (je_v 3)).je) (je_v 4) (nomark _)) (jw_or1 (jt_cmp (opd_ne hr.units) (je_fn O_closure (hr.mono (by decide)) (ja_cons (je_v 1) (ja_cons (je_callTy calld_tuple B.tuple (by decide +kernel) (ja_cons (je_fnM O__law_mixed (hr.mono (by decide)) (i := 0) rfl (by first | exact Or.inl rfl | exact Or.inr (Or.inl rfl) | exact Or.inr (Or.inr rfl)) (ja_cons (je_v 2) (ja_nil))) (ja_nil))) (ja_nil)))) (je_v 3) (nomark _))))).jt) (js_one (js_ret (je_bl))) (js_nil)) (js_cons (js_set (i := 5) (jx_dctOf rfl hr.units B.dict (jl_lc (own := [("_law_move", 11)]) rfl sc__law_right.nd (ji_sq (je_v 3)) (blkOk_by (by rfl)) (fun _ _ _ _ _ => jg_n 11 sc__law_right.nd) (fun _ _ _ _ _ => jts_nil) (fun _ _ _ _ _ => je_tup (ja_cons (je_v 11) (ja_cons (je_bl) (ja_nil)))))) sc__law_right.nd rfl (by first | exact Or.inl rfl | exact Or.inr rfl)) (js_cons (js_for (vs := [6]) rfl (ji_r1 B.range (je_int)) (jg_n 6 sc__law_right.nd) (js_cons (js_par (i := 7) (j := 8) rfl sc__law_right.nd rfl rfl (by decide) rfl rfl ((je_fnM O__law_pick (hr.mono (by decide)) (i := 0) rfl (by first | exact Or.inl rfl | exact Or.inr (Or.inl rfl) | exact Or.inr (Or.inr rfl)) (ja_cons (je_v 4) (ja_nil))).jx) ((je_fnM O__law_pick (hr.mono (by decide)) (i := 0) rfl (by first | exact Or.inl rfl | exact Or.inr (Or.inl rfl) | exact Or.inr (Or.inr rfl)) (ja_cons (je_v 4) (ja_nil))).jx) rfl) (js_one (js_if ((jw_or (jt_notinT (hu1 hr.units) (i := 5) rfl (by first | exact Or.inl rfl | exact Or.inr (Or.inl rfl) | exact Or.inr (Or.inr rfl)) (je_fn O_joined (hr.mono (by decide)) (ja_cons (je_v 7) (ja_cons (je_v 8) (ja_nil)))) rfl) (jw_or1 (jt_notinT (hu1 hr.units) (i := 5) rfl (by first | exact Or.inl rfl | exact Or.inr (Or.inl rfl) | exact Or.inr (Or.inr rfl)) (je_fn O_undone (hr.mono (by decide)) (ja_cons (je_v 7) (ja_nil))) rfl))).jt) (js_one (js_ret (je_bl))) (js_nil))))) (js_cons (js_set (i := 9) ((je_fn O_orbits (hr.mono (by decide)) (ja_cons (je_v 1) (ja_cons (je_v 2) (ja_nil)))).jx) sc__law_right.nd rfl (by first | exact Or.inl rfl | exact Or.inr rfl)) (js_cons (js_if ((jw_or (jt_cmp (opd_ne hr.units) (je_v 9) (je_fn O__law_orbits (hr.mono (by decide)) (ja_cons (je_v 1) (ja_cons (je_v 2) (ja_nil)))) (nomark _)) (jw_or1 ((jw_and (jt_cmp (opd_ne hr.units) (je_v 9) (je_fn O_orbits (hr.mono (by decide)) (ja_cons (je_v 1) (ja_cons (je_sl (je_v 3) (jo_none) (jo_some (je_int))) (ja_nil)))) (nomark _)) (jw_and1 (jt_cmp opd_le (je_callB calld_len B.len (by decide +kernel) (ja_cons (je_v 3) (ja_nil))) (je_int) (nomark _)))).jt))).jt) (js_one (js_ret (je_bl))) (js_nil)) (js_cons (js_for (vs := [10]) rfl (ji_sq (je_v 9)) (jg_n 10 sc__law_right.nd) (js_one (js_if (jt_cmp (opd_ne hr.units) (je_bin opd_mulA (je_callB calld_len B.len (by decide +kernel) (ja_cons ((jl_lc (own := [("_law_move", 11)]) rfl sc__law_right.nd (ji_sq (je_v 3)) (blkOk_by (by rfl)) (fun _ _ _ _ _ => jg_n 11 sc__law_right.nd) (fun _ _ _ _ _ => jts_one (jt_cmp (opd_eq hr.units) (je_ix (je_v 11) (je_ix (je_v 10) (je_int))) (je_ix (je_v 10) (je_int)) (nomark _))) (fun _ _ _ _ _ => je_v 11)).je) (ja_nil))) (je_callB calld_len B.len (by decide +kernel) (ja_cons (je_v 10) (ja_nil)))) (je_callB calld_len B.len (by decide +kernel) (ja_cons (je_v 3) (ja_nil))) (nomark _)) (js_one (js_ret (je_bl))) (js_nil)))) (js_one (js_ret (je_cmp (opd_eq hr.units) (je_callB (calld_sum rfl) B.sum (by decide +kernel) (ja_cons ((jl_lc (own := [("_law_lot", 10)]) rfl sc__law_right.nd (ji_sq (je_v 9)) (blkOk_by (by rfl)) (fun _ _ _ _ _ => jg_n 10 sc__law_right.nd) (fun _ _ _ _ _ => jts_nil) (fun _ _ _ _ _ => je_callB calld_len B.len (by decide +kernel) (ja_cons (je_v 10) (ja_nil)))).je) (ja_nil))) (je_v 1) (nomark _)))))))))))
theorem sc_law : FnScope N_law P_law (defScope st_law) := ⟨rfl, rfl, rfl, by decide +kernel, rfl, by decide +kernel, by decide +kernel⟩
theorem bs_law : BindsAs "law" st_law P_law := fun _ _ _ _ _ _ us hl => match us, hl with | [_], _ => rfl
theorem j_law (B : Bl mg) (O__law_dice : Ok P w K mg base "_law_dice" P__law_dice 1 (spL K 2 S__law_dice)) (O__law_right : Ok P w K mg base "_law_right" P__law_right 7 (spM K 2 S__law_right)) (O__law_roll : Ok P w K mg base "_law_roll" P__law_roll 1 (spM K 2 S__law_roll)) (O_orbits : Ok P w K mg base "orbits" P_orbits 6 (spD K 2 S_orbits)) (O_closure : Ok P w K mg base "closure" P_closure 6 (spD K 2 S_closure)) : BodyCx P w K mg base "law" st_law N_law 7 fun X => JSs X (defBody st_law) g_law := fun f cdv A outer s H E hr => js_cons (js_for (vs := [1]) rfl (ji_r1 B.range (je_callB (calld_max2 rfl) B.max (by decide +kernel) (ja_cons (je_int) (ja_cons (je_callB (calld_min2 rfl) B.min (by decide +kernel) (ja_cons (je_int) (ja_cons (je_callB calld_len B.len (by decide +kernel) (ja_cons (je_v 0) (ja_nil))) (ja_nil)))) (ja_nil))))) (jg_n 1 sc_law.nd) (js_cons (js_set (i := 2) ((jl_fn O__law_dice (hr.mono (by decide)) (ja_cons (je_v 0) (ja_cons (je_v 1) (ja_nil)))).jx) sc_law.nd rfl (by first | exact Or.inl rfl | exact Or.inr rfl)) (js_one (js_if ((jw_or (jt_not (jt_val (je_fnM O__law_right (hr.mono (by decide)) (i := 2) rfl (by first | exact Or.inl rfl | exact Or.inr (Or.inl rfl) | exact Or.inr (Or.inr rfl)) (ja_cons (je_bin opd_add (je_int) (je_fnM O__law_roll (hr.mono (by decide)) (i := 2) rfl (by first | exact Or.inl rfl | exact Or.inr (Or.inl rfl) | exact Or.inr (Or.inr rfl)) (ja_cons (je_int) (ja_nil)))) (ja_nil))))) (jw_or1 (jt_not (jt_val (je_fnM O__law_right (hr.mono (by decide)) (i := 2) rfl (by first | exact Or.inl rfl | exact Or.inr (Or.inl rfl) | exact Or.inr (Or.inr rfl)) (ja_cons (je_bin opd_add (je_int) (je_fnM O__law_roll (hr.mono (by decide)) (i := 2) rfl (by first | exact Or.inl rfl | exact Or.inr (Or.inl rfl) | exact Or.inr (Or.inr rfl)) (ja_cons (je_int) (ja_nil)))) (ja_nil))))))).jt) (js_one (js_ret (je_bl))) (js_nil))))) (js_cons (js_if (jt_cmp (opd_ne hr.units) ((jl_lst (ja_cons (je_fn O_closure (hr.mono (by decide)) (ja_cons (je_int) (ja_cons (je_tup (ja_nil)) (ja_nil)))) (ja_cons (je_fn O_closure (hr.mono (by decide)) (ja_cons (je_int) (ja_cons (je_tup (ja_nil)) (ja_nil)))) (ja_cons (je_fn O_orbits (hr.mono (by decide)) (ja_cons (je_int) (ja_cons (je_tup (ja_nil)) (ja_nil)))) (ja_cons (je_fn O_orbits (hr.mono (by decide)) (ja_cons (je_int) (ja_cons (je_tup (ja_nil)) (ja_nil)))) (ja_nil)))))).je) ((jl_lst (ja_cons (je_tup (ja_cons (je_tup (ja_nil)) (ja_nil))) (ja_cons (je_tup (ja_cons (je_tup (ja_cons (je_int) (ja_cons (je_int) (ja_cons (je_int) (ja_nil))))) (ja_nil))) (ja_cons (je_tup (ja_nil)) (ja_cons (je_tup (ja_cons (je_tup (ja_cons (je_int) (ja_nil))) (ja_cons (je_tup (ja_cons (je_int) (ja_nil))) (ja_nil)))) (ja_nil)))))).je) (nomark _)) (js_one (js_ret (je_bl))) (js_nil)) (js_one (js_ret (je_cmp (opd_eq hr.units) (je_callB calld_len B.len (by decide +kernel) (ja_cons (je_fn O_closure (hr.mono (by decide)) (ja_cons (je_int) (ja_cons (je_tup (ja_cons (je_tup (ja_cons (je_int) (ja_cons (je_int) (ja_cons (je_int) (ja_cons (je_int) (ja_cons (je_int) (ja_cons (je_int) (ja_nil)))))))) (ja_cons (je_tup (ja_cons (je_int) (ja_cons (je_int) (ja_cons (je_int) (ja_cons (je_int) (ja_cons (je_int) (ja_cons (je_int) (ja_nil)))))))) (ja_nil)))) (ja_nil)))) (ja_nil))) (je_int) (nomark _)))))
end
end Dn.K01
set_option Elab.async false
set_option linter.all false
set_option maxRecDepth 100000
set_option autoImplicit false
set_option maxHeartbeats 4000000
namespace Dn
open PySem L2 Evl PySem.Spec PyProof.Rows
local macro_rules | `(tactic| walk_at "dd") => `(tactic| simp only [sSeq, sIf, sSet, sRet, sRetN, sNx, sEx, sAsg, sPar, dTOr, dTAnd, dTNot, dTst, dIsi, dVar, dC, dBin, dChain, dNeg, dI2, dAnd, dOr, dNot, dIfE, dCall, dCallF, aCons, aNil, dTup, lLst, dOfL, xIm, xOw, gNm, gTp, gsCons, gsNil, dYes, envD, dLen_tR, dLen_tI, dLen_tup, dLen_lst, seq_tR, seq_tI, seq_tup, seq_lst, dIs, dIsNot, dNe, dEq, dTupOf, dSl, oNone, oSome, iSq, iEn, iR1, iR2, sFor, lLc, sNever, dTRg, rg1, rg2, lRg, wipeD, isN,
  dIxP, sSub, dApp, dPopAt, dExt, dCallM, dCallO, dBinO, dTupO, lOf, lOfO, sRetO, iOw, dVarF, lCat, lCall, dAbs, dMax2, dMin2, dInt, atO, setO, MO.getL, MO.putL, Option.isSome_some,
  dInK, dGetK, dGetD, dInD, dGet1, lKeys, lSort, dLenSet, dRevT, sPutK, xDct, xDct1, sRetK, atK, keyD, sAugI,
  kit_int, kit_bool, kit_tuple, kit_str, List.map_cons, List.map_nil, List.cons_append, List.nil_append, List.replicate, List.set_cons_zero, List.set_cons_succ, List.getElem?_cons_zero, List.getElem?_cons_succ, List.length_cons, List.length_nil, List.length_map, Nat.reduceAdd, Nat.reduceSub, Bool.not_true, Bool.not_false, Bool.false_eq_true, if_true, if_false, true_and, reduceCtorEq, Bool.true_eq_false, rgD_rgI, Option.some.injEq, exists_eq_left', and_true])
theorem v_is_integer : VD g_is_integer S_is_integer 1 0 := fun ds Q _ h => by
  obtain ⟨d, rfl, h⟩ := h
  unfold g_is_integer
  walk_at "dd"
  cases d with
  | int i =>
    simp only [isI] at h
    walk_at "dd"
    refine bool_ways (fun e => ?_) (fun e => ?_)
    · rw [e] at h; exact h
    · rw [e] at h; exact h
  | _ => first | (walk_at "dd"; exact h) | exact h
theorem v_is_thing : VD g_is_thing S_is_thing 2 0 := fun ds Q _ h => by
  obtain ⟨d, n, rfl, h⟩ := h
  unfold g_is_thing
  walk_at "dd"
  refine ⟨d, rfl, ?_⟩
  cases d with
  | int i =>
    simp only [isTh] at h
    simp only [isI]
    refine bool_ways (fun e => ?_) (fun e => ?_)
    · rw [e] at h
      walk_at "dd"
      refine bool_ways (fun e2 => ?_) (fun e2 => ?_)
      · rw [e2] at h; simpa using h
      · rw [e2] at h; simpa using h
    · rw [e] at h; exact h
  | _ => exact h
theorem v_is_within : VD g_is_within S_is_within 3 0 := fun ds Q _ h => by
  obtain ⟨i, a, b, rfl, h⟩ := h
  unfold g_is_within
  walk_at "dd"
  refine ⟨_, rfl, ?_⟩
  refine bool_ways (fun e => ?_) (fun e => ?_)
  · rw [e] at h
    try walk_at "dd"
    refine bool_ways (fun e2 => ?_) (fun e2 => ?_)
    · rw [e2] at h; simpa using h
    · rw [e2] at h; simpa using h
  · rw [e] at h; exact h
theorem v_is_row : VD g_is_row S_is_row 3 1 := fun ds Q _ h => by
  obtain ⟨d, m, n, rfl, hl, hn, h⟩ := h
  unfold g_is_row
  walk_at "dd"
  cases d with
  | tuple xs =>
    simp only [isRow] at h
    walk_at "dd"
    refine ⟨rfl, rfl, ?_⟩
    simp only [PyData.eqv]
    refine ite_ways (fun e => ?_) (fun e => ?_)
    · rw [show decide ((xs.length : Int) = m) = false from by simpa using e] at h; exact h
    · rw [show decide ((xs.length : Int) = m) = true from by simpa using e] at h
      refine wpFor_find (fun d => if isTh n d = true then none else some (.bool false)) (fun ρ => ∃ x, ρ = [some (.im (.tuple xs)), some (.im (.int m)), some (.im (.int n)), x]) ⟨_, rfl⟩ (fun d _ ρ K B hI hq hk => ?_) (fun v hv => ?_) (fun hv ρ hI => ?_)
      · obtain ⟨x, rfl⟩ := hI
        walk_at "dd"
        cases d with
        | int i =>
          walk_at "dd"
          have te : isTh n (.int i) = true ↔ 0 ≤ i ∧ i < n := by
            simp only [isTh, Bool.and_eq_true, decide_eq_true_eq]
            omega
          refine bool_ways (fun e1 => ?_) (fun e1 => ?_)
          · refine ite_ways (fun e2 => ?_) (fun e2 => ?_)
            · exact hq _ (if_neg (by rw [te]; simp at e1 e2; omega))
            · exact hk (if_pos (by rw [te]; simp at e1 e2; omega)) _ ⟨_, rfl⟩
          · exact hq _ (if_neg (by rw [te]; simp at e1; omega))
        | _ => exact hq _ rfl
      · have e2 : xs.all (isTh n) = false := by
          obtain ⟨d, hd, h2⟩ := List.exists_of_findSome?_eq_some hv
          rw [Bool.eq_false_iff]
          intro z
          have := List.all_eq_true.mp z d hd
          simp [this] at h2
        have e3 : v = .bool false := by
          obtain ⟨d, hd, h2⟩ := List.exists_of_findSome?_eq_some hv
          split at h2
          · cases h2
          · cases h2; rfl
        subst e3
        simpa [e2] using h
      · have e2 : xs.all (isTh n) = true := by
          rw [List.all_eq_true]
          intro d hd
          have := List.findSome?_eq_none_iff.mp hv d hd
          simpa using this
        obtain ⟨x, rfl⟩ := hI
        walk_at "dd"
        simpa [e2] using h
  | _ => exact h
theorem v_check_within : VD g_check_within S_check_within 3 0 := fun ds Q _ h => by
  obtain ⟨i, a, b, rfl, h1, h2, h3, h⟩ := h
  unfold g_check_within
  walk_at "dd"
  refine ⟨_, _, _, rfl, ?_⟩
  rw [h1, decide_eq_true h2, decide_eq_true h3]
  exact h
theorem v_check_thing : VD g_check_thing S_check_thing 2 0 := fun ds Q _ h => by
  obtain ⟨d, n, rfl, h1, h⟩ := h
  unfold g_check_thing
  walk_at "dd"
  refine ⟨_, _, rfl, ?_⟩
  rw [h1]
  exact h
theorem v_is_move : VD g_is_move S_is_move 1 0 := fun ds Q _ h => by
  obtain ⟨d, rfl, h⟩ := h
  unfold g_is_move
  walk_at "dd"
  cases d with
  | tuple xs =>
    simp only [isMove] at h
    walk_at "dd"
    refine ite_ways (fun e => ?_) (fun e => ?_)
    · have : ¬ xs.length ≤ 24 := by simp at e; omega
      rw [decide_eq_false this] at h
      exact h
    · have hl : xs.length ≤ 24 := by simp at e; omega
      rw [decide_eq_true hl] at h
      refine ⟨_, _, _, rfl, fun ys hy => by cases hy; omega, by omega, ?_⟩
      simp only [isRow, decide_true, Bool.true_and] at h ⊢
      refine bool_ways (fun e2 => ?_) (fun e2 => ?_)
      · rw [e2] at h
        refine ⟨xs.map intD, by rw [← all_ints e2], by simp; omega, fun n hn => ?_⟩
        refine ⟨rfl, rfl, ?_⟩
        have : decide (xs.map intD).Nodup = PyData.eqv (.int n) (.int xs.length) := by
          simp only [PyData.eqv]
          by_cases z : (xs.map intD).Nodup
          · have := hn.2 z
            simp at this
            simp [z, this]
          · have : ¬ n = (xs.map intD).length := fun w => z (hn.1 w)
            simp at this
            simp [z]
            omega
        rw [← this]
        simpa using h
      · rw [e2] at h; exact h
  | _ => exact h
theorem v_is_move_of : VD g_is_move_of S_is_move_of 2 0 := fun ds Q _ h => by
  obtain ⟨d, n, rfl, h⟩ := h
  unfold g_is_move_of
  walk_at "dd"
  refine ⟨_, rfl, ?_⟩
  unfold isMoveOf at h
  refine bool_ways (fun e => ?_) (fun e => ?_)
  · rw [e] at h
    cases d with
    | tuple xs =>
      walk_at "dd"
      refine ⟨rfl, rfl, ?_⟩
      simp only [PyData.eqv]
      rw [show ((xs.length : Int) == n) = decide ((xs.length : Int) = n) from by rw [Bool.eq_iff_iff]; simp]
      simpa using h
    | _ => simp [isMove] at e
  · rw [e] at h; exact h
theorem v_check_move_of : VD g_check_move_of S_check_move_of 2 0 := fun ds Q _ h => by
  obtain ⟨d, n, rfl, h1, h⟩ := h
  unfold g_check_move_of
  walk_at "dd"
  refine ⟨_, _, rfl, ?_⟩
  rw [h1]
  exact h
theorem v_check_makers : VD g_check_makers S_check_makers 2 1 := fun ds Q _ h => by
  obtain ⟨n, mk, rfl, hk, h⟩ := h
  have h1 := hk.most
  have h2 := hk.few
  unfold g_check_makers
  walk_at "dd"
  refine ⟨_, _, _, rfl, by simp [isI]; omega, by omega, by omega, ?_⟩
  unfold tR
  walk_at "dd"
  rw [show decide (((24 : Int)) < ((mk.length : Nat) : Int)) = false from by simp; omega]
  walk_at "dd"
  refine wpFor_inv (fun ρ => ∃ x, ρ = [some (.im (.int n)), some (.im (tR mk)), x]) ⟨_, rfl⟩ (fun d hd ρ K i k => ?_) (fun ρ i => ?_)
  · obtain ⟨x, rfl⟩ := i
    obtain ⟨m, hm, rfl⟩ := List.mem_map.mp hd
    walk_at "dd"
    exact ⟨_, _, rfl, (move_perm (hk.move m hm) h1).2, k _ ⟨_, rfl⟩⟩
  · exact h
theorem v__check_way : VD g__check_way S__check_way 4 0 := fun ds Q _ h => by
  obtain ⟨n, mk, s, g, rfl, hk, hs, hg, h⟩ := h
  have h1 := hk.most
  unfold g__check_way
  walk_at "dd"
  exact ⟨_, _, rfl, hk, _, _, rfl, isTh_in hs.1 hs.2 (by omega), _, _, rfl, isTh_in hg.1 hg.2 (by omega), h⟩
end Dn
set_option Elab.async false
set_option linter.all false
set_option maxRecDepth 100000
set_option autoImplicit false
set_option maxHeartbeats 4000000
namespace Dn
open PySem L2 Evl PySem.Spec PyProof.Rows
local macro_rules | `(tactic| walk_at "dd") => `(tactic| simp only [sSeq, sIf, sSet, sRet, sRetN, sNx, sEx, sAsg, sPar, dTOr, dTAnd, dTNot, dTst, dIsi, dVar, dC, dBin, dChain, dNeg, dI2, dAnd, dOr, dNot, dIfE, dCall, dCallF, aCons, aNil, dTup, lLst, dOfL, xIm, xOw, gNm, gTp, gsCons, gsNil, dYes, envD, dLen_tR, dLen_tI, dLen_tup, dLen_lst, seq_tR, seq_tI, seq_tup, seq_lst, dIs, dIsNot, dNe, dEq, dTupOf, dSl, oNone, oSome, iSq, iEn, iR1, iR2, sFor, lLc, sNever, dTRg, rg1, rg2, lRg, wipeD, isN,
  dIxP, sSub, dApp, dPopAt, dExt, dCallM, dCallO, dBinO, dTupO, lOf, lOfO, sRetO, iOw, dVarF, lCat, lCall, dAbs, dMax2, dMin2, dInt, atO, setO, MO.getL, MO.putL, Option.isSome_some,
  dInK, dGetK, dGetD, dInD, dGet1, lKeys, lSort, dLenSet, dRevT, sPutK, xDct, xDct1, sRetK, atK, keyD, sAugI,
  kit_int, kit_bool, kit_tuple, kit_str, List.map_cons, List.map_nil, List.cons_append, List.nil_append, List.replicate, List.set_cons_zero, List.set_cons_succ, List.getElem?_cons_zero, List.getElem?_cons_succ, List.length_cons, List.length_nil, List.length_map, Nat.reduceAdd, Nat.reduceSub, Bool.not_true, Bool.not_false, Bool.false_eq_true, if_true, if_false, true_and, reduceCtorEq, Bool.true_eq_false, rgD_rgI, Option.some.injEq, exists_eq_left', and_true])
theorem mem_rg {l : List Int} {n : Nat} (h : l.Perm (rgI n)) {x : Int} (hx : x ∈ l) : 0 ≤ x ∧ x < n := mem_rgI.mp (h.mem_iff.1 hx)
theorem ix_im {n : Nat} {m : List Int} {x : Int} {Q : D → Prop} (h : List.Perm m (rgI n)) (x0 : 0 ≤ x) (x1 : x < n) (q : Q (.int (im m x))) : dIx (tI m) (.int x) Q :=
  ixI x0 (by rw [h.length_eq, rgI_len]; exact x1) q
theorem wk_len (f : List Int → D) (w : Wy) : (wk f w).length = w.length := by unfold wk; simp
theorem atI_n {α : Type} {l : List α} {r : Nat} {x : α} (h : l[r]? = some x) : atI l (r : Int) = some x := by
  have hr := (List.getElem?_eq_some_iff.mp h).1
  unfold atI ixN
  rw [if_pos (by omega), if_pos (by omega)]
  simpa using h
def qd (w : Wy) : List D := w.map fun e => .int e.1
theorem qd_at {w : Wy} {r : Nat} {e : Int × List Int} (h : w[r]? = some e) : (qd w)[r]? = some (.int e.1) := by unfold qd; rw [List.getElem?_map, h]; rfl
theorem v__ways_from : VD g__ways_from S__ways_from 2 6 := fun ds Q _ h => by
  obtain ⟨n, mk, s, rfl, hk, hs, h⟩ := h
  have h1 := hk.most
  unfold g__ways_from
  walk_at "dd"
  refine ⟨by decide, by decide, ?_⟩
  unfold sWh
  refine wpWh_lt (β := Wy × Nat × Nat) (fun b ρ => ∃ x1 x2 x3, ρ = [some (.im (tR mk)), some (.im (.int s)), some (.ow (.dct (wk tI b.1))), some (.ow (.lst (qd b.1))), some (.im (.int (b.2.1 : Nat))), x1, x2, x3] ∧ Wg n mk s b.1 ∧ b.2.1 ≤ b.1.length ∧ n = b.2.1 + b.2.2 ∧ run mk b.2.2 b.1 b.2.1 = waysOf mk n s)
    (fun b => b.2.2) (fun b ρ K i k => ?_) (b := ([(s, [])], 0, n)) ⟨_, _, _, rfl, Wg.one hs.1 hs.2, by simp, by simp, rfl⟩
  obtain ⟨w, r, kk⟩ := b
  obtain ⟨x1, x2, x3, rfl, hw, hr, hn, he⟩ := i
  have hl := hw.len
  try walk_at "dd"
  have ql : (qd w).length = w.length := by unfold qd; simp
  refine ⟨rfl, ?_⟩
  rw [ql]
  refine ite_ways (fun e => ?_) (fun e => ?_)
  · have lt : r < w.length := by simpa using e
    obtain ⟨a, ha⟩ : ∃ a, w[r]? = some a := ⟨_, List.getElem?_eq_getElem lt⟩
    have ra := hw.rng a (List.mem_of_getElem? ha)
    try walk_at "dd"
    dsimp only at hw hr hn he hl
    refine ⟨_, _, _, rfl, rfl, atI_n (qd_at ha), ?_⟩
    rw [enD_map mk tI []]
    refine wpFor_fold (rgI mk.length) _ (st1 mk a.1 a.2) (fun w' ρ => ∃ x2 x3, ρ = [some (.im (tR mk)), some (.im (.int s)), some (.ow (.dct (wk tI w'))), some (.ow (.lst (qd w'))), some (.im (.int (r : Nat))), some (.im (.int a.1)), x2, x3] ∧ Wg n mk s w' ∧ w <+: w') ⟨_, _, rfl, hw, List.prefix_refl w⟩ (fun i hi w' ρ K2 p k2 => ?_) (fun ρ p => ?_)
    · obtain ⟨x2, x3, rfl, hw', pre⟩ := p
      have hp := hk.move _ (hk.at hi)
      have l' := hw'.len
      have ha' := pre_at pre ha
      try walk_at "dd"
      have hz : (wk tI w').length < sizeLine := by
        rw [wk_len]
        have : (64 : Nat) < sizeLine := by decide
        omega
      refine ix_im hp ra.1 ra.2 ⟨_, _, rfl, rfl, ?_⟩
      rw [valD_wk]
      have hst : st1 mk a.1 a.2 w' i = if (lk w' (im (mk.getD i.toNat []) a.1)).isSome = true then w' else w' ++ [(im (mk.getD i.toNat []) a.1, a.2 ++ [i])] := rfl
      have good := hw'.st1 hk ha' hi
      have gp := pre.trans (st1_pre mk a.1 a.2 w' i)
      cases hv : lk w' (im (mk.getD i.toNat []) a.1) with
      | some q =>
        rw [hv, if_pos (show (some q).isSome = true from rfl)] at hst
        simp only [Option.map_some, Option.isSome_some, Bool.not_true]
        try walk_at "dd"
        rw [hst] at k2 good gp
        exact k2 _ ⟨_, _, rfl, good, gp⟩
      | none =>
        rw [hv, if_neg (show ¬ (none : Option (List Int)).isSome = true by simp)] at hst
        simp only [Option.map_none, Option.isSome_none, Bool.not_false]
        try walk_at "dd"
        rw [hst] at k2 good gp
        have pl := (hw'.path r a ha').1
        refine ⟨_, _, tI a.2, rfl, rfl, by rw [valD_wk, lk_at hw'.nd ha']; rfl, by decide, ?_⟩
        refine ⟨by simp; omega, ?_⟩
        refine ix_im hp ra.1 ra.2 ⟨_, _, rfl, rfl, hz, ?_⟩
        refine ix_im hp ra.1 ra.2 ⟨by unfold qd; simp; omega, ?_⟩
        have e1 := putD_wk tI w' _ (a.2 ++ [i]) hv
        have e2 : PyData.tuple (List.map PyData.int a.snd ++ [PyData.int i]) = tI (a.2 ++ [i]) := by unfold tI; simp
        have e3 : qd (w' ++ [(im (mk.getD i.toNat []) a.1, a.2 ++ [i])]) = qd w' ++ [.int (im (mk.getD i.toNat []) a.1)] := by unfold qd; simp
        rw [e2, e1, ← e3]
        exact k2 _ ⟨_, _, rfl, good, gp⟩
    · obtain ⟨x2, x3, rfl, hw', pre⟩ := p
      try walk_at "dd"
      have l' := hw'.len
      have e1 : run mk kk w r = run mk (kk - 1) (proc mk a.1 a.2 w) (r + 1) := by
        obtain ⟨k', rfl⟩ : ∃ k', kk = k' + 1 := ⟨kk - 1, by omega⟩
        rw [run, ha]
        rfl
      have pl : w.length ≤ (proc mk a.1 a.2 w).length := pre.length_le
      rw [show ((r : Int) + 1) = ((r + 1 : Nat) : Int) from by simp]
      refine k (proc mk a.1 a.2 w, r + 1, kk - 1) _ (by show kk - 1 < kk; omega) ⟨_, _, _, rfl, hw', ?_, ?_, ?_⟩
      · show r + 1 ≤ (proc mk a.1 a.2 w).length; omega
      · show n = r + 1 + (kk - 1); omega
      · show run mk (kk - 1) (proc mk a.1 a.2 w) (r + 1) = _
        rw [← e1]; exact he
  · dsimp only at hw hr hn he hl
    have ge : w.length ≤ r := by simpa using e
    have : run mk kk w r = w := by
      cases kk with
      | zero => rfl
      | succ k' => rw [run, List.getElem?_eq_none_iff.mpr ge]
    rw [this] at he
    subst he
    exact h
end Dn
set_option Elab.async false
set_option linter.all false
set_option maxRecDepth 100000
set_option autoImplicit false
set_option maxHeartbeats 4000000
namespace Dn
open PySem L2 Evl PySem.Spec PyProof.Rows
local macro_rules | `(tactic| walk_at "dd") => `(tactic| simp only [sSeq, sIf, sSet, sRet, sRetN, sNx, sEx, sAsg, sPar, dTOr, dTAnd, dTNot, dTst, dIsi, dVar, dC, dBin, dChain, dNeg, dI2, dAnd, dOr, dNot, dIfE, dCall, dCallF, aCons, aNil, dTup, lLst, dOfL, xIm, xOw, gNm, gTp, gsCons, gsNil, dYes, envD, dLen_tR, dLen_tI, dLen_tup, dLen_lst, seq_tR, seq_tI, seq_tup, seq_lst, dIs, dIsNot, dNe, dEq, dTupOf, dSl, oNone, oSome, iSq, iEn, iR1, iR2, sFor, lLc, sNever, dTRg, rg1, rg2, lRg, wipeD, isN,
  dIxP, sSub, dApp, dPopAt, dExt, dCallM, dCallO, dBinO, dTupO, lOf, lOfO, sRetO, iOw, dVarF, lCat, lCall, dAbs, dMax2, dMin2, dInt, atO, setO, MO.getL, MO.putL, Option.isSome_some,
  lSortT, dOfK, xOwK, lDc, dMinL, dIndex, lRep, dInK, dGetK, dGetD, dInD, dGet1, lKeys, lSort, dLenSet, dRevT, sPutK, xDct, xDct1, sRetK, atK, keyD, sAugI,
  kit_int, kit_bool, kit_tuple, kit_str, List.map_cons, List.map_nil, List.cons_append, List.nil_append, List.replicate, List.set_cons_zero, List.set_cons_succ, List.getElem?_cons_zero, List.getElem?_cons_succ, List.length_cons, List.length_nil, List.length_map, Nat.reduceAdd, Nat.reduceSub, Bool.not_true, Bool.not_false, Bool.false_eq_true, if_true, if_false, true_and, reduceCtorEq, Bool.true_eq_false, rgD_rgI, Option.some.injEq, exists_eq_left', and_true])
theorem v_check_integer : VD g_check_integer S_check_integer 1 0 := fun ds Q _ h => by
  obtain ⟨d, rfl, h1, h⟩ := h
  unfold g_check_integer
  try walk_at "dd"
  refine ⟨_, rfl, ?_⟩
  rw [h1]
  exact h
theorem v_check_move : VD g_check_move S_check_move 1 0 := fun ds Q _ h => by
  obtain ⟨d, rfl, h1, h⟩ := h
  unfold g_check_move
  try walk_at "dd"
  refine ⟨_, rfl, ?_⟩
  rw [h1]
  exact h
theorem jn_read {n : Nat} {a b : List Int} (ha : Mv n a) (hb : Mv n b) (f : Int → D) (hf : ∀ x, f x = .int (im a x)) : PyData.tuple (b.map f) = tI (jn a b) := by
  unfold tI jn
  rw [List.map_map]
  congr 1
  exact List.map_congr_left fun x _ => hf x
theorem v_joined_moves : VD g_joined_moves S_joined_moves 2 1 := fun ds Q _ h => by
  obtain ⟨n, a, b, rfl, ha, hb, hn, h⟩ := h
  unfold g_joined_moves
  try walk_at "dd"
  refine wpLc_mapL b PyData.int (fun x => .int (im a x)) (by rw [hb.len]; omega) rfl (fun x hx K hK => ?_) (fun _ => rfl) ?_
  · have rx := mem_rg hb hx
    try walk_at "dd"
    exact ix_im ha rx.1 rx.2 (hK _ rfl)
  · try walk_at "dd"
    rw [jn_read ha hb (fun x => .int (im a x)) fun _ => rfl]
    exact h
theorem v__law_joined : VD g__law_joined S__law_joined 2 1 := fun ds Q _ h => by
  obtain ⟨n, a, b, rfl, ha, hb, hn, h⟩ := h
  unfold g__law_joined
  try walk_at "dd"
  refine wpLc_mapL b PyData.int (fun x => .int (im a x)) (by rw [hb.len]; omega) rfl (fun x hx K hK => ?_) (fun _ => rfl) ?_
  · have rx := mem_rg hb hx
    try walk_at "dd"
    exact ix_im ha rx.1 rx.2 (hK _ rfl)
  · try walk_at "dd"
    rw [jn_read ha hb (fun x => .int (im a x)) fun _ => rfl]
    exact h
theorem v_joined : VD g_joined S_joined 2 0 := fun ds Q _ h => by
  obtain ⟨n, a, b, rfl, ha, hb, hn, h⟩ := h
  unfold g_joined
  try walk_at "dd"
  refine ⟨_, rfl, (move_perm ha hn).1, _, _, rfl, by rw [ha.len]; exact (move_perm hb hn).2, ?_⟩
  exact ⟨n, a, b, rfl, ha, hb, hn, h⟩
theorem valD_put {kvs : List (Key × D)} {k j : Key} {d : D} : valD (putD kvs k d) j = if j = k then some d else valD kvs j := by
  unfold putD
  by_cases a : (kvs.any fun kv => decide (kv.1 = k)) = true
  · rw [if_pos a]
    induction kvs with
    | nil => simp at a
    | cons e r ih =>
      unfold valD at ih ⊢
      rw [List.map_cons, List.find?_cons, List.find?_cons]
      by_cases h : e.1 = k
      · rw [if_pos h]
        by_cases h2 : j = k
        · subst h2; simp [h]
        · have h3 : ¬ e.1 = j := fun z => h2 (by rw [← z, h])
          rw [if_neg h2]
          simp only [h3, decide_false]
          clear ih a
          induction r with
          | nil => rfl
          | cons e2 r2 ih2 =>
            rw [List.map_cons, List.find?_cons, List.find?_cons]
            by_cases h4 : e2.1 = k
            · rw [if_pos h4]
              have h5 : ¬ e2.1 = j := fun z => h2 (by rw [← z, h4])
              simp only [h5, decide_false]
              exact ih2
            · rw [if_neg h4]
              by_cases h5 : e2.1 = j
              · simp [h5]
              · simp only [h5, decide_false]
                exact ih2
      · rw [if_neg h]
        have a2 : (r.any fun kv => decide (kv.1 = k)) = true := by
          rw [List.any_cons] at a
          simpa [h] using a
        by_cases h3 : e.1 = j
        · have h2 : ¬ j = k := fun z => h (by rw [h3, z])
          rw [if_neg h2]
          simp [h3]
        · simp only [h3, decide_false]
          exact ih a2
  · rw [if_neg a]
    have hn : valD kvs k = none := valD_none_any.2 (by rw [Bool.not_eq_true] at a; exact a)
    unfold valD at hn ⊢
    rw [List.find?_append]
    by_cases h2 : j = k
    · subst h2
      rw [Option.map_eq_none_iff] at hn
      rw [hn, if_pos rfl]
      simp
    · rw [if_neg h2]
      have : ¬ k = j := fun z => h2 z.symm
      simp [this]
theorem inv_vals {n : Nat} {m : List Int} (hm : Mv n m) {kvs : List (Key × D)} (hv : ∀ x : Int, 0 ≤ x → x < n → valD kvs (.inl (im m x)) = some (.int x)) {y : Int} (y0 : 0 ≤ y) (y1 : y < n) : valD kvs (.inl y) = some (.int (iv m y)) := by
  have p := iv_rng hm y0 y1
  have := hv _ p.1.1 p.1.2
  rw [p.2] at this
  exact this
theorem wpDc_cps {g : DG} {tt : DT} {tk te : DE} {vs : List Nat} {Q : List (Key × D) → Env → Prop} (P : List D → List (Key × D) → Env → Prop) {ds : List D} {ρ0 : Env} (h0 : P [] [] ρ0)
    (hs : ∀ (done : List D) (d : D) (rest : List D) (acc : List (Key × D)) (ρ : Env) (K : List (Key × D) → Env → Prop), ds = done ++ d :: rest → P done acc ρ → (∀ acc' ρ', P (done ++ [d]) acc' ρ' → K acc' ρ') →
      acc.length < 16777216 ∧ g d (wipeD ρ vs) fun ρ1 => tt ρ1 fun b ρ2 => if b = true then tk ρ2 fun yk ρk => te ρk fun y ρ3 => ∃ k, keyD yk = some k ∧ K (putD acc k y) (wipeD ρ3 vs) else K acc (wipeD ρ2 vs))
    (he : ∀ acc ρ, P ds acc ρ → Q acc ρ) : wpDc g tt tk te vs Q ds [] ρ0 := by
  have aux : ∀ (rest done : List D) (acc : List (Key × D)) (ρ : Env), ds = done ++ rest → P done acc ρ → wpDc g tt tk te vs Q rest acc ρ := by
    intro rest
    induction rest with
    | nil => intro done acc ρ e p; rw [List.append_nil] at e; subst e; exact he acc ρ p
    | cons d rest ih =>
      intro done acc ρ e p
      exact hs done d rest acc ρ _ e p fun acc' ρ' p' => ih (done ++ [d]) acc' ρ' (by rw [e]; simp) p'
  exact aux ds [] [] ρ0 rfl h0
theorem iv_read {n : Nat} {m : List Int} (hm : Mv n m) : PyData.tuple ((rgI n).map fun y => PyData.int (iv m y)) = tI (inv m) := by
  rw [inv_map hm]; unfold tI; rw [List.map_map]; rfl
theorem v_undone_move : VD g_undone_move S_undone_move 1 3 := fun ds Q _ h => by
  obtain ⟨n, m, rfl, hm, hn, h⟩ := h
  have hl := hm.len
  unfold g_undone_move
  try walk_at "dd"
  rw [enD_map m PyData.int 0, hl]
  refine wpDc_cps (fun done acc ρ => ρ = [some (.im (tI m)), none, none, none] ∧ acc.length ≤ done.length ∧ ∀ x : Int, 0 ≤ x → x < done.length → valD acc (.inl (im m x)) = some (.int x)) ⟨rfl, by simp, fun x h0 h1 => by simp at h1; omega⟩ (fun done d rest acc ρ K e p k => ?_) (fun acc ρ p => ?_)
  · obtain ⟨rfl, al, av⟩ := p
    obtain ⟨l1, i, l2, e1, rfl, rfl, rfl⟩ := map_split e
    obtain ⟨ei, e2⟩ := rgI_split e1
    rw [List.length_map] at al av
    have lt : l1.length < n := by
      have := congrArg List.length e1
      rw [rgI_len] at this
      simp at this
      omega
    refine ⟨by omega, ?_⟩
    try walk_at "dd"
    refine k _ _ ⟨rfl, ?_, fun x x0 x1 => ?_⟩
    · have := putD_len (kvs := acc) (k := .inl (m.getD i.toNat 0)) (d := .int i)
      simp only [List.length_append, List.length_map, List.length_cons, List.length_nil]
      omega
    · rw [valD_put]
      simp only [List.length_append, List.length_map, List.length_cons, List.length_nil] at x1
      by_cases z : x = i
      · subst z
        exact if_pos rfl
      · have x2 : x < l1.length := by omega
        rw [if_neg (fun w => z (im_inj hm x0 (by omega) (by omega) (by omega) (by simpa [im] using w)))]
        exact av x x0 x2
  · obtain ⟨rfl, al, av⟩ := p
    rw [List.length_map, rgI_len] at av
    try walk_at "dd"
    refine ⟨by rw [hl]; exact rgd (by omega), ?_⟩
    rw [hl]
    refine wpLc_mapL (rgI n) PyData.int (fun y => .int (iv m y)) (by rw [rgI_len]; omega) rfl (fun y hy K hK => ?_) (fun _ => rfl) ?_
    · have ry := mem_rgI.mp hy
      try walk_at "dd"
      exact ⟨_, _, _, rfl, rfl, inv_vals hm av ry.1 ry.2, hK _ rfl⟩
    · try walk_at "dd"
      rw [iv_read hm]
      exact h
theorem v_undone : VD g_undone S_undone 1 0 := fun ds Q _ h => by
  obtain ⟨n, m, rfl, hm, hn, h⟩ := h
  unfold g_undone
  try walk_at "dd"
  exact ⟨_, rfl, (move_perm hm hn).1, n, m, rfl, hm, hn, h⟩
end Dn
set_option Elab.async false
set_option linter.all false
set_option maxRecDepth 100000
set_option autoImplicit false
set_option maxHeartbeats 4000000
namespace Dn
open PySem L2 Evl PySem.Spec PyProof.Rows
local macro_rules | `(tactic| walk_at "dd") => `(tactic| simp only [sSeq, sIf, sSet, sRet, sRetN, sNx, sEx, sAsg, sPar, dTOr, dTAnd, dTNot, dTst, dIsi, dVar, dC, dBin, dChain, dNeg, dI2, dAnd, dOr, dNot, dIfE, dCall, dCallF, aCons, aNil, dTup, lLst, dOfL, xIm, xOw, gNm, gTp, gsCons, gsNil, dYes, envD, dLen_tR, dLen_tI, dLen_tup, dLen_lst, seq_tR, seq_tI, seq_tup, seq_lst, dIs, dIsNot, dNe, dEq, dTupOf, dSl, oNone, oSome, iSq, iEn, iR1, iR2, sFor, lLc, sNever, dTRg, rg1, rg2, lRg, wipeD, isN,
  dIxP, sSub, dApp, dPopAt, dExt, dCallM, dCallO, dBinO, dTupO, lOf, lOfO, sRetO, iOw, dVarF, lCat, lCall, dAbs, dMax2, dMin2, dInt, atO, setO, MO.getL, MO.putL, Option.isSome_some,
  lSortT, dOfK, xOwK, lDc, dMinL, dIndex, lRep, dInK, dGetK, dGetD, dInD, dGet1, lKeys, lSort, dLenSet, dRevT, sPutK, xDct, xDct1, sRetK, atK, keyD, sAugI,
  kit_int, kit_bool, kit_tuple, kit_str, List.map_cons, List.map_nil, List.cons_append, List.nil_append, List.replicate, List.set_cons_zero, List.set_cons_succ, List.getElem?_cons_zero, List.getElem?_cons_succ, List.length_cons, List.length_nil, List.length_map, Nat.reduceAdd, Nat.reduceSub, Bool.not_true, Bool.not_false, Bool.false_eq_true, if_true, if_false, true_and, reduceCtorEq, Bool.true_eq_false, rgD_rgI, Option.some.injEq, exists_eq_left', and_true])
theorem atI_neg {α : Type} {l : List α} (h : 0 < l.length) : atI l (-1) = l[l.length - 1]? := by
  unfold atI ixN
  rw [if_neg (by omega), if_pos (by omega)]
  show l[((-1 : Int) + l.length).toNat]? = _
  congr 1
  omega
/-- x, m x, m m x, .. -/
def itD (m : List Int) (x : Int) (k : Nat) : List D := (List.range k).map fun j => .int (it m j x)
theorem itD_len {m : List Int} {x : Int} {k : Nat} : (itD m x k).length = k := by unfold itD; simp
theorem itD_last {m : List Int} {x : Int} {k : Nat} (h : 1 ≤ k) : atI (itD m x k) (-1) = some (.int (it m (k - 1) x)) := by
  rw [atI_neg (by rw [itD_len]; omega), itD_len]
  unfold itD
  rw [List.getElem?_map, List.getElem?_range (by omega)]
  rfl
theorem itD_snoc {m : List Int} {x : Int} {k : Nat} : itD m x k ++ [.int (it m k x)] = itD m x (k + 1) := by
  unfold itD
  rw [List.range_succ, List.map_append]; rfl
theorem itD_cyc {m : List Int} {n : Nat} {x : Int} : itD m x (per m n x) = (cyc m n x).map PyData.int := by unfold itD cyc; rw [List.map_map]; rfl
theorem im_it {m : List Int} {x : Int} {k : Nat} (h : 1 ≤ k) : im m (it m (k - 1) x) = it m k x := by
  obtain ⟨j, rfl⟩ : ∃ j, k = j + 1 := ⟨k - 1, by omega⟩
  rfl
theorem per_at {m : List Int} {n : Nat} (hm : Mv n m) {x : Int} (hx : 0 ≤ x ∧ x < n) {k : Nat} (k1 : 1 ≤ k) (k2 : k ≤ per m n x) (e : it m k x = x) : k = per m n x := by
  by_cases z : k = per m n x
  · exact z
  · exact absurd e ((per_spec hm hx).2.2.2 k (by omega) (by omega))
def part (m : List Int) (n : Nat) (l : List Int) : List (List Int) := (l.filter (lead m n)).map (cyc m n)
theorem part_yes {m : List Int} {n : Nat} {l : List Int} {x : Int} (h : lead m n x = true) : part m n (l ++ [x]) = part m n l ++ [cyc m n x] := by
  unfold part
  rw [List.filter_append, List.filter_cons_of_pos h]
  simp
theorem part_no {m : List Int} {n : Nat} {l : List Int} {x : Int} (h : lead m n x = false) : part m n (l ++ [x]) = part m n l := by
  unfold part
  rw [List.filter_append, List.filter_cons_of_neg (by simp [h])]
  simp
theorem part_len {m : List Int} {n : Nat} {l : List Int} : (part m n l).length ≤ l.length := by
  unfold part
  rw [List.length_map]
  exact List.length_filter_le _ _
def met (m : List Int) (n : Nat) (l : List Int) (x : Int) : Prop := ∃ s, s ∈ l ∧ lead m n s = true ∧ x ∈ cyc m n s
theorem met_lead {m : List Int} {n : Nat} (hm : Mv n m) {l1 l2 : List Int} {x : Int} (e : rgI n = l1 ++ x :: l2) : (0 ≤ x ∧ x < n) ∧ (met m n l1 x ↔ lead m n x = false) := by
  obtain ⟨h1, h2⟩ := rgI_split e
  have hx : x ∈ rgI n := by rw [e]; simp
  have rx := mem_rgI.mp hx
  refine ⟨rx, ?_⟩
  rw [← not_lead hm rx]
  unfold met
  constructor
  · rintro ⟨s, hs, h⟩
    rw [h2] at hs
    have := mem_rgI.mp hs
    exact ⟨s, ⟨this.1, by omega⟩, h⟩
  · rintro ⟨s, ⟨s0, s1⟩, h⟩
    exact ⟨s, by rw [h2]; exact mem_rgI.mpr ⟨s0, by omega⟩, h⟩
theorem met_snoc {m : List Int} {n : Nat} {l : List Int} {x y : Int} (h : lead m n x = true) : met m n (l ++ [x]) y ↔ met m n l y ∨ y ∈ cyc m n x := by
  unfold met
  simp only [List.mem_append, List.mem_singleton]
  constructor
  · rintro ⟨s, hs | rfl, h1, h2⟩
    · exact .inl ⟨s, hs, h1, h2⟩
    · exact .inr h2
  · rintro (⟨s, hs, h1⟩ | h2)
    · exact ⟨s, .inl hs, h1⟩
    · exact ⟨x, .inr rfl, h, h2⟩
theorem met_no {m : List Int} {n : Nat} {l : List Int} {x y : Int} (h : lead m n x = false) : met m n (l ++ [x]) y ↔ met m n l y := by
  unfold met
  simp only [List.mem_append, List.mem_singleton]
  constructor
  · rintro ⟨s, hs | rfl, h1, h2⟩
    · exact ⟨s, hs, h1, h2⟩
    · rw [h] at h1; cases h1
  · rintro ⟨s, hs, h1⟩
    exact ⟨s, .inl hs, h1⟩
theorem v__cycles_of : VD g__cycles_of S__cycles_of 1 5 := fun ds Q _ h => by
  obtain ⟨n, m, rfl, hm, hn, h⟩ := h
  have hl := hm.len
  have hz : (100000 : Nat) < sizeLine := by decide
  unfold g__cycles_of
  try walk_at "dd"
  refine ⟨by decide, by rw [hl]; exact rgd (by omega), ?_⟩
  rw [hl]
  refine wpFor_cps (fun done ρ => ∃ (l1 : List Int) (kvs : List (Key × D)) (x3 x4 x5 : Option SV), done = l1.map PyData.int ∧ ρ = [some (.im (tI m)), some (.ow (.dct kvs)), some (.ow (.lst ((part m n l1).map tI))), x3, x4, x5] ∧ kvs.length ≤ 24 * l1.length ∧ ∀ x : Int, (valD kvs (.inl x)).isSome = true ↔ met m n l1 x)
    ⟨[], [], _, _, _, rfl, rfl, by simp, fun x => by simp [valD, met]⟩ (fun done d rest ρ K e p k => ?_) (fun ρ p => ?_)
  · obtain ⟨l1', kvs, x3, x4, x5, ed, rfl, kl, kv⟩ := p
    obtain ⟨l1, i, l2, e1, rfl, rfl, rfl⟩ := map_split e
    obtain rfl : l1 = l1' := by
      have := congrArg (List.map intD) ed
      rw [intD_map, intD_map] at this
      exact this
    have ll : l1.length < n := by
      have := congrArg List.length e1
      rw [rgI_len] at this
      simp at this
      omega
    obtain ⟨ri, ml⟩ := met_lead hm e1
    try walk_at "dd"
    refine ⟨_, _, rfl, rfl, ?_⟩
    cases hv : (valD kvs (.inl i)).isSome with
    | true =>
      have lf := ml.1 ((kv i).1 hv)
      try walk_at "dd"
      refine k _ ⟨l1 ++ [i], kvs, _, _, _, by simp, by rw [part_no lf], by simp; omega, fun x => by rw [met_no lf]; exact kv x⟩
    | false =>
      have lt : lead m n i = true := by
        cases e2 : lead m n i with
        | true => rfl
        | false => have := (kv i).2 (ml.2 e2); rw [hv] at this; cases this
      have ps := per_spec hm ri
      try walk_at "dd"
      refine ⟨by decide, ?_⟩
      unfold sWh
      refine wpWh_lt (β := Nat) (fun c ρ => ρ = [some (.im (tI m)), some (.ow (.dct kvs)), some (.ow (.lst ((part m n l1).map tI))), some (.im (.int i)), some (.ow (.lst (itD m i c))), x5] ∧ 1 ≤ c ∧ c ≤ per m n i) (fun c => per m n i - c) (fun c ρ K2 p2 k2 => ?_) (b := 1) ⟨rfl, by decide, ps.1⟩
      obtain ⟨rfl, c1, c2⟩ := p2
      have rc := it_rng hm ri (c - 1)
      try walk_at "dd"
      refine ⟨_, _, _, rfl, rfl, itD_last c1, ix_im hm rc.1 rc.2 ?_⟩
      rw [im_it c1]
      refine ⟨rfl, rfl, ?_⟩
      simp only [PyData.eqv]
      refine ite_ways (fun z => ?_) (fun z => ?_)
      · have ne : it m c i ≠ i := by simpa using z
        have lt2 : c < per m n i := by
          by_cases w : c = per m n i
          · rw [w, ps.2.2.1] at ne; exact absurd rfl ne
          · omega
        try walk_at "dd"
        refine ⟨_, _, _, rfl, rfl, itD_last c1, ix_im hm rc.1 rc.2 ⟨by rw [itD_len]; omega, ?_⟩⟩
        rw [im_it c1, itD_snoc]
        exact k2 (c + 1) _ (by omega) ⟨rfl, by omega, by omega⟩
      · have ec : it m c i = i := by simpa using z
        obtain rfl := per_at hm ri c1 c2 ec
        rw [itD_cyc]
        try walk_at "dd"
        have cl := cyc_len (m := m) (n := n) i
        refine wpFor_cps (fun done2 ρ => ∃ (kvs2 : List (Key × D)) (x5 : Option SV), ρ = [some (.im (tI m)), some (.ow (.dct kvs2)), some (.ow (.lst ((part m n l1).map tI))), some (.im (.int i)), some (.im (.list ((cyc m n i).map PyData.int))), x5] ∧ kvs2.length ≤ 24 * l1.length + done2.length ∧ ∀ x : Int, (valD kvs2 (.inl x)).isSome = true ↔ met m n l1 x ∨ PyData.int x ∈ done2)
          ⟨kvs, _, rfl, by simpa using kl, by simpa using kv⟩ (fun done2 d rest2 ρ K3 e3 p k3 => ?_) (fun ρ p => ?_)
        · obtain ⟨kvs2, x5, rfl, kl2, kv2⟩ := p
          have dl2 := congrArg List.length e3
          rw [List.length_map, cl] at dl2
          simp only [List.length_append, List.length_cons] at dl2
          obtain ⟨x, hx, rfl⟩ : ∃ x, x ∈ cyc m n i ∧ PyData.int x = d := List.mem_map.mp (by rw [e3]; simp)
          try walk_at "dd"
          refine ⟨_, _, rfl, rfl, by omega, ?_⟩
          refine k3 _ ⟨_, _, rfl, ?_, fun y => ?_⟩
          · have := putD_len (kvs := kvs2) (k := .inl x) (d := .bool true)
            simp only [List.length_append, List.length_cons, List.length_nil]
            omega
          · rw [putD_has, kv2 y]
            simp only [List.mem_append, List.mem_singleton, Sum.inl.injEq, PyData.int.injEq]
            constructor
            · rintro (h | h | h)
              · exact .inr (.inr h)
              · exact .inl h
              · exact .inr (.inl h)
            · rintro (h | h | h)
              · exact .inr (.inl h)
              · exact .inr (.inr h)
              · exact .inl h
        · obtain ⟨kvs2, x5, rfl, kl2, kv2⟩ := p
          rw [List.length_map, cl] at kl2
          have pl := part_len (m := m) (n := n) (l := l1)
          try walk_at "dd"
          refine ⟨by omega, ?_⟩
          rw [show (part m n l1).map tI ++ [PyData.tuple ((cyc m n i).map PyData.int)] = (part m n (l1 ++ [i])).map tI from by rw [part_yes lt]; simp [tI]]
          refine k _ ⟨l1 ++ [i], kvs2, _, _, _, by simp, rfl, by simp; omega, fun x => ?_⟩
          rw [kv2 x, met_snoc lt]
          simp
  · obtain ⟨l1, kvs, x3, x4, x5, ed, rfl, kl, kv⟩ := p
    obtain rfl : rgI n = l1 := by
      have := congrArg (List.map intD) ed
      rw [intD_map, intD_map] at this
      exact this
    try walk_at "dd"
    exact h
theorem v_cycles : VD g_cycles S_cycles 1 0 := fun ds Q _ h => by
  obtain ⟨n, m, rfl, hm, hn, h⟩ := h
  unfold g_cycles
  try walk_at "dd"
  exact ⟨_, rfl, (move_perm hm hn).1, n, m, rfl, hm, hn, h⟩
end Dn
set_option Elab.async false
set_option linter.all false
set_option maxRecDepth 100000
set_option autoImplicit false
set_option maxHeartbeats 4000000
namespace Dn
open PySem L2 Evl PySem.Spec PyProof.Rows
local macro_rules | `(tactic| walk_at "dd") => `(tactic| simp only [sSeq, sIf, sSet, sRet, sRetN, sNx, sEx, sAsg, sPar, dTOr, dTAnd, dTNot, dTst, dIsi, dVar, dC, dBin, dChain, dNeg, dI2, dAnd, dOr, dNot, dIfE, dCall, dCallF, aCons, aNil, dTup, lLst, dOfL, xIm, xOw, gNm, gTp, gsCons, gsNil, dYes, envD, dLen_tR, dLen_tI, dLen_tup, dLen_lst, seq_tR, seq_tI, seq_tup, seq_lst, dIs, dIsNot, dNe, dEq, dTupOf, dSl, oNone, oSome, iSq, iEn, iR1, iR2, sFor, lLc, sNever, dTRg, rg1, rg2, lRg, wipeD, isN,
  dIxP, sSub, dApp, dPopAt, dExt, dCallM, dCallO, dBinO, dTupO, lOf, lOfO, sRetO, iOw, dVarF, lCat, lCall, dAbs, dMax2, dMin2, dInt, atO, setO, MO.getL, MO.putL, Option.isSome_some,
  lSortT, dOfK, xOwK, lDc, dMinL, dIndex, lRep, dInK, dGetK, dGetD, dInD, dGet1, lKeys, lSort, dLenSet, dRevT, sPutK, xDct, xDct1, sRetK, atK, keyD, sAugI,
  kit_int, kit_bool, kit_tuple, kit_str, List.map_cons, List.map_nil, List.cons_append, List.nil_append, List.replicate, List.set_cons_zero, List.set_cons_succ, List.getElem?_cons_zero, List.getElem?_cons_succ, List.length_cons, List.length_nil, List.length_map, Nat.reduceAdd, Nat.reduceSub, Bool.not_true, Bool.not_false, Bool.false_eq_true, if_true, if_false, true_and, reduceCtorEq, Bool.true_eq_false, rgD_rgI, Option.some.injEq, exists_eq_left', and_true])
theorem v__law_pick : VM g__law_pick S__law_pick 2 0 := fun l ms ds Q _ h => by
  obtain ⟨d, xs, rfl, hd, hn, hl, hm, h⟩ := h
  unfold g__law_pick
  walk_at "dd"
  rw [dLen_seq hd]
  have pos : 0 < xs.length := List.length_pos_iff.mpr hn
  refine ⟨_, rfl, by omega, by simp only [T60]; omega, hm, fun r ms' r0 r1 hm' => ?_⟩
  unfold dIx
  rw [hd]
  dsimp only
  refine ⟨_, atI_in (d := .none) r0 r1, _, rfl, h _ _ (getD_mem (by omega)) hm'⟩
theorem v__law_undone : VD g__law_undone S__law_undone 1 3 := fun ds Q _ h => by
  obtain ⟨n, m, rfl, hm, hn, h⟩ := h
  have hl := hm.len
  unfold g__law_undone
  try walk_at "dd"
  refine wpLc_mapL m PyData.int (fun _ => .int 0) (by omega) rfl (fun x hx K hK => ?_) (fun _ => rfl) ?_
  · try walk_at "dd"
    exact hK _ rfl
  · try walk_at "dd"
    rw [enD_map m PyData.int 0, hl]
    refine wpFor_cps (fun done ρ => ∃ (u : List Int) (x y : Option SV), ρ = [some (SV.im (tI m)), some (SV.ow (MO.lst (u.map PyData.int))), x, y] ∧ u.length = n ∧ ∀ x : Nat, x < done.length → u[(im m x).toNat]? = some (x : Int)) ⟨m.map (fun _ => 0), _, _, (by rw [show (m.map fun _ => (0 : Int)).map PyData.int = m.map fun _ => PyData.int 0 from by rw [List.map_map]; rfl]), (by simp [hl]), fun x hx => by simp at hx⟩ (fun done d rest ρ K e p k => ?_) (fun ρ p => ?_)
    · obtain ⟨u, x, y, rfl, hu, hu2⟩ := p
      obtain ⟨l1, i, l2, e1, rfl, rfl, rfl⟩ := map_split e
      obtain ⟨ei, e2⟩ := rgI_split e1
      rw [List.length_map] at hu2
      have lt : l1.length < n := by
        have := congrArg List.length e1
        rw [rgI_len] at this
        simp at this
        omega
      have g := im_in hm (x := i) (by omega) (by omega)
      try walk_at "dd"
      refine ⟨_, _, (im m i).toNat, rfl, rfl, ?_, ?_⟩
      · unfold ixN
        show (if 0 ≤ im m i then _ else _) = _
        rw [if_pos g.1, if_pos (by simp [hu]; exact g.2)]
        rfl
      · refine k _ ⟨u.set (im m i).toNat i, _, _, (by rw [List.map_set]), (by simp [hu]), fun x hx => ?_⟩
        simp only [List.length_append, List.length_map, List.length_cons, List.length_nil] at hx
        by_cases z : x = l1.length
        · have : (x : Int) = i := by omega
          rw [this, List.getElem?_set_self (by omega)]
        · have gx := im_in hm (x := (x : Int)) (by omega) (by omega)
          rw [List.getElem?_set_ne (fun w => by
            have := im_inj hm (by omega) (by omega) (by omega) (by omega) (show im m x = im m i by omega)
            omega)]
          exact hu2 x (by omega)
    · obtain ⟨u, x, y, rfl, hu, hu2⟩ := p
      rw [List.length_map, rgI_len] at hu2
      try walk_at "dd"
      have : u = inv m := by
        rw [inv_map hm]
        apply List.ext_getElem?
        intro k
        by_cases hk : k < n
        · rw [List.getElem?_map, rgI_get hk]
          obtain ⟨q1, q2⟩ := iv_rng hm (y := (k : Int)) (by omega) (by omega)
          have := hu2 (iv m k).toNat (by omega)
          rw [show (((iv m k).toNat : Nat) : Int) = iv m k by omega, q2] at this
          simpa using this
        · rw [List.getElem?_eq_none_iff.mpr (by omega), List.getElem?_eq_none_iff.mpr (by simp [rgI_len]; omega)]
      subst this
      exact h
def pw (m : List Int) (n k : Nat) : List Int := (rgI n).map (it m k)
theorem pw_mv {n : Nat} {m : List Int} (hm : Mv n m) (k : Nat) : Mv n (pw m n k) :=
  mv_map (fun x h0 h1 => it_rng hm ⟨h0, h1⟩ k) fun x y x0 x1 y0 y1 e => it_inj hm ⟨x0, x1⟩ ⟨y0, y1⟩ e
theorem pw_zero (m : List Int) (n : Nat) : pw m n 0 = rgI n := by
  unfold pw
  conv => rhs; rw [← List.map_id (rgI n)]
  exact List.map_congr_left fun x _ => rfl
theorem pw_one {n : Nat} {m : List Int} (hm : Mv n m) : pw m n 1 = m := by
  conv => rhs; rw [mv_self hm]
  rfl
theorem pw_succ {n : Nat} {m : List Int} (hm : Mv n m) (k : Nat) : jn m (pw m n k) = pw m n (k + 1) := by
  rw [jn_map (pw_mv hm k)]
  refine map_ext fun x h0 h1 => ?_
  show im m (im ((rgI n).map (it m k)) x) = it m (k + 1) x
  rw [im_map h0 h1]; rfl
theorem pw_idle {n : Nat} {m : List Int} (hm : Mv n m) {k : Nat} : pw m n k = rgI n ↔ ord m n ∣ k := by
  rw [ord_dvd hm]
  constructor
  · intro e x h0 h1
    have := congrArg (fun l => im l x) e
    unfold pw at this
    rw [im_map h0 h1] at this
    rw [this]
    have e2 : rgI n = (rgI n).map id := (List.map_id _).symm
    rw [e2, im_map h0 h1]; rfl
  · intro e
    conv => rhs; rw [← List.map_id (rgI n)]
    exact map_ext fun x h0 h1 => e x h0 h1
theorem v__law_power : VD g__law_power S__law_power 2 2 := fun ds Q _ h => by
  obtain ⟨n, m, k, rfl, hm, hn, hk, h⟩ := h
  have hl := hm.len
  unfold g__law_power
  try walk_at "dd"
  rw [hl]
  refine ⟨rgd (by omega), ?_⟩
  try walk_at "dd"
  refine ⟨rgd hk, ?_⟩
  refine wpFor_cps (fun done ρ => ∃ x, ρ = [some (.im (tI m)), some (.im (.int k)), some (.im (tI (pw m n done.length))), x]) ⟨_, by rw [show ([] : List D).length = 0 from rfl, pw_zero]; rfl⟩ (fun done d rest ρ K e p k2 => ?_) (fun ρ p => ?_)
  · obtain ⟨x, rfl⟩ := p
    try walk_at "dd"
    refine ⟨n, m, _, rfl, hm, pw_mv hm _, hn, ?_⟩
    rw [pw_succ hm, show done.length + 1 = (done ++ [d]).length from by simp]
    exact k2 _ ⟨_, rfl⟩
  · obtain ⟨x, rfl⟩ := p
    rw [List.length_map, rgI_len]
    try walk_at "dd"
    exact h
theorem v__law_order_of : VD g__law_order_of S__law_order_of 1 3 := fun ds Q _ h => by
  obtain ⟨n, m, rfl, hm, hn, h⟩ := h
  have hl := hm.len
  have op := ord_pos hm
  have ol := ord_le hm hn
  unfold g__law_order_of
  try walk_at "dd"
  refine And.intro (⟨by decide, by decide, by decide, by decide⟩ : RgD 0 100) ?_
  refine wpFor_cps (fun done ρ => ∃ x, ρ = [some (.im (tI m)), some (.im (.int ((done.length + 1 : Nat) : Int))), some (.im (tI (pw m n (done.length + 1)))), x] ∧ done.length < ord m n) ⟨_, by rw [show ([] : List D).length + 1 = 1 from rfl, pw_one hm]; rfl, op⟩ (fun done d rest ρ K e p k2 => ?_) (fun ρ p => ?_)
  · obtain ⟨x, rfl, lt⟩ := p
    try walk_at "dd"
    rw [hl]
    refine ⟨rgd (by omega), ?_⟩
    rw [show PyData.tuple ((rgI n).map PyData.int) = tI (rgI n) from rfl]
    refine ⟨shaped_tI _, shaped_tI _, ?_⟩
    rw [eqv_tI]
    refine ite_ways (fun z => ?_) (fun z => ?_)
    · have e1 : pw m n (done.length + 1) = rgI n := by simpa using z
      have := Nat.le_of_dvd (by omega) ((pw_idle hm).1 e1)
      have e2 : done.length + 1 = ord m n := by omega
      rw [e2]
      exact h
    · have e1 : ¬ pw m n (done.length + 1) = rgI n := by simpa using z
      have ne : done.length + 1 ≠ ord m n := fun w => e1 ((pw_idle hm).2 (by rw [w]; exact Nat.dvd_refl _))
      try walk_at "dd"
      refine ⟨n, m, _, rfl, hm, pw_mv hm _, by omega, ?_⟩
      rw [pw_succ hm, show (((done.length + 1 : Nat) : Int) + 1) = (((done ++ [d]).length + 1 : Nat) : Int) from by simp, show done.length + 1 + 1 = (done ++ [d]).length + 1 from by simp]
      exact k2 _ ⟨_, rfl, by simp; omega⟩
  · obtain ⟨x, rfl, lt⟩ := p
    rw [rgD_len] at lt
    have : ((100 : Int) - 0).toNat = 100 := rfl
    omega
theorem v_order_of : VD g_order_of S_order_of 1 2 := fun ds Q _ h => by
  obtain ⟨n, m, rfl, hm, hn, h⟩ := h
  unfold g_order_of
  try walk_at "dd"
  refine ⟨_, rfl, (move_perm hm hn).1, n, m, rfl, hm, hn, ?_⟩
  refine ⟨_, rfl, ?_⟩
  refine wpFor_cps (fun done ρ => ∃ (x : Option SV) (l1 l2 : List (List Int)), ρ = [some (.im (tI m)), some (.im (.int (((l1.map (·.length)).foldl Nat.lcm 1 : Nat) : Int))), x] ∧ cs m n = l1 ++ l2 ∧ done = l1.map tI) ⟨_, [], cs m n, rfl, rfl, rfl⟩ (fun done d rest ρ K e p k => ?_) (fun ρ p => ?_)
  · obtain ⟨x, l1, l2, rfl, e1, rfl⟩ := p
    obtain ⟨l1', l, l2', e2, e3, rfl, rfl⟩ := map_split e
    have hl1 : l1.length = l1'.length := by
      have := congrArg List.length e3
      simpa using this
    have e4 : l1' = l1 := by
      have a := congrArg (List.take l1.length) e1
      rw [List.take_left] at a
      have b := congrArg (List.take l1'.length) e2
      rw [List.take_left, ← hl1, a] at b
      exact b.symm
    subst e4
    have sm : (l1'.map (·.length)).sum ≤ n ∧ l.length ≤ n := by
      have f := flat_le hm
      rw [e2] at f
      simp at f
      omega
    have big : (l1'.map (·.length)).foldl Nat.lcm 1 ≤ 2 ^ 24 := by
      refine Nat.le_trans (lcm_le _ 1) ?_
      rw [Nat.one_mul]
      exact Nat.pow_le_pow_right (by decide) (by omega)
    have c24 : (2 : Nat) ^ 24 < 2 ^ 64 := by decide
    try walk_at "dd"
    refine ⟨?_, ?_, ?_⟩
    · rw [Int.natAbs_natCast]; omega
    · rw [Int.natAbs_natCast]; omega
    · rw [Int.natAbs_natCast, Int.natAbs_natCast, show Nat.lcm ((l1'.map (·.length)).foldl Nat.lcm 1) l.length = ((l1' ++ [l]).map (·.length)).foldl Nat.lcm 1 from by simp]
      exact k _ ⟨_, l1' ++ [l], l2', rfl, by rw [e2]; simp, by simp⟩
  · obtain ⟨x, l1, l2, rfl, e1, e3⟩ := p
    have : l2 = [] := by
      have a := congrArg List.length e3
      have b := congrArg List.length e1
      simp at a b
      exact List.length_eq_zero_iff.mp (by omega)
    subst this
    rw [List.append_nil] at e1
    rw [← e1]
    try walk_at "dd"
    exact h
theorem v__law_rotated : VD g__law_rotated S__law_rotated 1 1 := fun ds Q _ h => by
  obtain ⟨l, rfl, ne, nd, hl, h⟩ := h
  unfold g__law_rotated
  try walk_at "dd"
  refine ⟨⟨_, rfl⟩, l, rfl, ne, fun mn hmn hmin => ?_⟩
  obtain ⟨j, hj, e⟩ := List.mem_iff_getElem.mp hmn
  refine ⟨l, mn, j, rfl, rfl, by rw [List.getElem?_eq_getElem hj, e], fun k hk w => ?_, ?_⟩
  · obtain ⟨hk2, ek⟩ := List.getElem?_eq_some_iff.mp w
    have := (List.getElem_inj nd).mp (ek.trans e.symm)
    omega
  · try walk_at "dd"
    have d1 : cutD (l.map PyData.int) (some (j : Int)) none = (l.drop j).map PyData.int := by
      unfold cutD HT.sIx
      have : ¬ ((j : Int) < 0) := by omega
      simp [this]
      rw [show min j l.length = j by omega, List.take_of_length_le (by simp)]
    have d2 : cutD (l.map PyData.int) none (some (j : Int)) = (l.take j).map PyData.int := by
      unfold cutD HT.sIx
      have : ¬ ((j : Int) < 0) := by omega
      simp [this]
    rw [d1, d2]
    simp only [dAdd]
    refine ⟨by simp; omega, ?_⟩
    rw [show PyData.tuple ((l.drop j).map PyData.int ++ (l.take j).map PyData.int) = tI (l.drop j ++ l.take j) from by simp [tI]]
    refine h j hj fun z hz => ?_
    rw [List.getD, List.getElem?_eq_getElem hj, e]
    exact hmin z hz
end Dn
set_option Elab.async false
set_option linter.all false
set_option maxRecDepth 100000
set_option autoImplicit false
set_option maxHeartbeats 4000000
namespace Dn
open PySem L2 Evl PySem.Spec PyProof.Rows
local macro_rules | `(tactic| walk_at "dd") => `(tactic| simp only [sSeq, sIf, sSet, sRet, sRetN, sNx, sEx, sAsg, sPar, dTOr, dTAnd, dTNot, dTst, dIsi, dVar, dC, dBin, dChain, dNeg, dI2, dAnd, dOr, dNot, dIfE, dCall, dCallF, aCons, aNil, dTup, lLst, dOfL, xIm, xOw, gNm, gTp, gsCons, gsNil, dYes, envD, dLen_tR, dLen_tI, dLen_tup, dLen_lst, seq_tR, seq_tI, seq_tup, seq_lst, dIs, dIsNot, dNe, dEq, dTupOf, dSl, oNone, oSome, iSq, iEn, iR1, iR2, sFor, lLc, sNever, dTRg, rg1, rg2, lRg, wipeD, isN,
  dIxP, sSub, dApp, dPopAt, dExt, dCallM, dCallO, dBinO, dTupO, lOf, lOfO, sRetO, iOw, dVarF, lCat, lCall, dAbs, dMax2, dMin2, dInt, atO, setO, MO.getL, MO.putL, Option.isSome_some,
  lSortT, dOfK, xOwK, lDc, dMinL, dIndex, lRep, dInK, dGetK, dGetD, dInD, dGet1, lKeys, lSort, dLenSet, dRevT, sPutK, xDct, xDct1, sRetK, atK, keyD, sAugI,
  kit_int, kit_bool, kit_tuple, kit_str, List.map_cons, List.map_nil, List.cons_append, List.nil_append, List.replicate, List.set_cons_zero, List.set_cons_succ, List.getElem?_cons_zero, List.getElem?_cons_succ, List.length_cons, List.length_nil, List.length_map, Nat.reduceAdd, Nat.reduceSub, Bool.not_true, Bool.not_false, Bool.false_eq_true, if_true, if_false, true_and, reduceCtorEq, Bool.true_eq_false, rgD_rgI, Option.some.injEq, exists_eq_left', and_true])
theorem turn_mod {L : Nat} (hL : 0 < L) (j : Nat) (k : Int) : (((j : Int) + k) % (L : Int)).toNat = ((k % (L : Int)).toNat + j) % L := by
  have h0 : (0 : Int) ≤ k % (L : Int) := Int.emod_nonneg _ (by omega)
  have h1 : (0 : Int) ≤ ((j : Int) + k) % (L : Int) := Int.emod_nonneg _ (by omega)
  have e : ((((k % (L : Int)).toNat + j) % L : Nat) : Int) = ((j : Int) + k) % (L : Int) := by
    rw [Int.natCast_emod, Int.natCast_add, Int.toNat_of_nonneg h0, Int.emod_add_emod, Int.add_comm]
  omega
theorem cyc_at {m : List Int} {n : Nat} {x : Int} {j : Nat} (h : j < per m n x) : (cyc m n x).getD j 0 = it m j x := by
  unfold cyc
  rw [List.getD, List.getElem?_map, List.getElem?_range h]
  rfl
def rs (m : List Int) (n : Nat) (k : Int) (x : Int) : Int := it m (k % (per m n x : Nat)).toNat x
theorem rs_cyc {n : Nat} {m : List Int} (hm : Mv n m) {x : Int} (hx : 0 ≤ x ∧ x < n) {j : Nat} (hj : j < per m n x) (k : Int) : it m (((j : Int) + k) % (per m n x : Nat)).toNat x = rs m n k (it m j x) := by
  unfold rs
  have p := (per_spec hm hx).1
  rw [per_cyc hm hx (mem_cyc' hm hx j), ← it_add, turn_mod (by omega), ← it_mod hm hx]
theorem cs_split {m : List Int} {n : Nat} {l1 l2 l1' l2' : List (List Int)} {l : List Int} (e1 : cs m n = l1 ++ l2) (e2 : cs m n = l1' ++ l :: l2') (hl : l1.length = l1'.length) : l1' = l1 := by
  have a := congrArg (List.take l1.length) e1
  rw [List.take_left] at a
  have b := congrArg (List.take l1'.length) e2
  rw [List.take_left, ← hl, a] at b
  exact b.symm
theorem v_raised : VD g_raised S_raised 2 4 := fun ds Q _ h => by
  obtain ⟨n, m, k, rfl, hm, hn, hk, h⟩ := h
  have hl := hm.len
  have hz : (100000 : Nat) < sizeLine := by decide
  unfold g_raised
  try walk_at "dd"
  refine ⟨_, rfl, (move_perm hm hn).1, _, rfl, hk, n, m, rfl, hm, hn, ?_⟩
  refine ⟨_, rfl, ?_⟩
  refine wpFor_cps (fun done ρ => ∃ (kvs : List (Key × D)) (x3 x4 x5 : Option SV) (l1 l2 : List (List Int)), ρ = [some (.im (tI m)), some (.im (.int k)), some (.ow (.dct kvs)), x3, x4, x5] ∧ cs m n = l1 ++ l2 ∧ done = l1.map tI ∧ kvs.length ≤ (l1.map (·.length)).sum ∧ ∀ l, l ∈ l1 → ∀ x, x ∈ l → valD kvs (.inl x) = some (.int (rs m n k x)))
    ⟨[], _, _, _, [], cs m n, rfl, rfl, rfl, by simp, by simp⟩ (fun done d rest ρ K e p k2 => ?_) (fun ρ p => ?_)
  · obtain ⟨kvs, x3, x4, x5, l1, l2, rfl, e1, rfl, kl, kv⟩ := p
    obtain ⟨l1', l, l2', e2, e3, rfl, rfl⟩ := map_split e
    obtain rfl := cs_split e1 e2 (by have := congrArg List.length e3; simpa using this)
    have sm : (l1'.map (·.length)).sum + l.length ≤ n := by
      have f := flat_le hm
      rw [e2] at f
      simp at f
      omega
    obtain ⟨s, hs, rfl⟩ : ∃ s, s ∈ leads m n ∧ cyc m n s = l := List.mem_map.mp (show l ∈ (leads m n).map (cyc m n) by show l ∈ cs m n; rw [e2]; simp)
    have rg := ((leads_mem hm).1 hs).1
    have p1 := (per_spec hm rg).1
    rw [cyc_len] at sm
    try walk_at "dd"
    rw [enD_map (cyc m n s) PyData.int 0, cyc_len]
    refine wpFor_cps (fun done2 ρ => ∃ (kvs2 : List (Key × D)) (x4 x5 : Option SV), ρ = [some (.im (tI m)), some (.im (.int k)), some (.ow (.dct kvs2)), some (.im (tI (cyc m n s))), x4, x5] ∧ kvs2.length ≤ (l1'.map (·.length)).sum + done2.length ∧ (∀ l, l ∈ l1' → ∀ x, x ∈ l → valD kvs2 (.inl x) = some (.int (rs m n k x))) ∧ ∀ j, j < done2.length → valD kvs2 (.inl (it m j s)) = some (.int (rs m n k (it m j s))))
      ⟨kvs, _, _, rfl, by simpa using kl, kv, by simp⟩ (fun done2 d rest2 ρ K3 e4 p k3 => ?_) (fun ρ p => ?_)
    · obtain ⟨kvs2, x4, x5, rfl, kl2, kv2, kj2⟩ := p
      obtain ⟨q1, i, q2, e5, rfl, rfl, rfl⟩ := map_split e4
      obtain ⟨ei, e6⟩ := rgI_split e5
      rw [List.length_map] at kl2 kj2
      have lt : q1.length < per m n s := by
        have := congrArg List.length e5
        rw [rgI_len] at this
        simp at this
        omega
      subst ei
      try walk_at "dd"
      rw [Int.toNat_natCast, cyc_at lt, cyc_len]
      have c0 : (0 : Int) ≤ ((q1.length : Int) + k) % (per m n s : Nat) := Int.emod_nonneg _ (by omega)
      have c1 : ((q1.length : Int) + k) % (per m n s : Nat) < (per m n s : Nat) := Int.emod_lt_of_pos _ (by omega)
      simp only [dAdd]
      refine ⟨by omega, ixI c0 (by rw [cyc_len]; exact c1) ?_⟩
      rw [cyc_at (by omega), rs_cyc hm rg lt]
      refine ⟨_, _, rfl, rfl, by omega, ?_⟩
      refine k3 _ ⟨_, _, _, rfl, ?_, fun l hl x hx => ?_, fun j hj => ?_⟩
      · have := putD_len (kvs := kvs2) (k := .inl (it m q1.length s)) (d := .int (rs m n k (it m q1.length s)))
        simp only [List.length_append, List.length_map, List.length_cons, List.length_nil]
        omega
      · rw [valD_put]
        by_cases z : x = it m q1.length s
        · subst z; exact if_pos rfl
        · rw [if_neg (by simpa using z)]; exact kv2 l hl x hx
      · rw [valD_put]
        by_cases z : it m j s = it m q1.length s
        · rw [z]; exact if_pos rfl
        · rw [if_neg (by simpa using z)]
          simp only [List.length_append, List.length_map, List.length_cons, List.length_nil] at hj
          refine kj2 j ?_
          by_cases w : j = q1.length
          · rw [w] at z; exact absurd rfl z
          · omega
    · obtain ⟨kvs2, x4, x5, rfl, kl2, kv2, kj2⟩ := p
      rw [List.length_map, rgI_len] at kl2 kj2
      refine k2 _ ⟨kvs2, _, _, _, l1' ++ [cyc m n s], l2', rfl, by rw [e2]; simp, by simp, by simp [cyc_len]; omega, fun l hl x hx => ?_⟩
      rcases List.mem_append.mp hl with hl | hl
      · exact kv2 l hl x hx
      · rw [List.mem_singleton.mp hl] at hx
        obtain ⟨j, hj, rfl⟩ := mem_cyc.1 hx
        exact kj2 j hj
  · obtain ⟨kvs, x3, x4, x5, l1, l2, rfl, e1, e3, kl, kv⟩ := p
    have : l2 = [] := by
      have a := congrArg List.length e3
      have b := congrArg List.length e1
      simp at a b
      exact List.length_eq_zero_iff.mp (by omega)
    subst this
    rw [List.append_nil] at e1
    have all : ∀ x : Int, 0 ≤ x → x < n → valD kvs (.inl x) = some (.int (rs m n k x)) := fun x h0 h1 => by
      obtain ⟨z, hz, hl2, _⟩ := has_lead hm ⟨h0, h1⟩
      have rz := cyc_rng hm ⟨h0, h1⟩ hz
      refine kv (cyc m n z) (by rw [← e1]; exact List.mem_map.mpr ⟨z, (leads_mem hm).2 ⟨rz, hl2⟩, rfl⟩) x (cyc_symm hm ⟨h0, h1⟩ hz)
    try walk_at "dd"
    rw [hl]
    refine ⟨rgd (by omega), ?_⟩
    refine wpLc_mapL (rgI n) PyData.int (fun y => .int (rs m n k y)) (by rw [rgI_len]; omega) rfl (fun y hy K hK => ?_) (fun _ => rfl) ?_
    · have ry := mem_rgI.mp hy
      try walk_at "dd"
      exact ⟨_, _, _, rfl, rfl, all y ry.1 ry.2, hK _ rfl⟩
    · try walk_at "dd"
      rw [show PyData.tuple ((rgI n).map fun y => PyData.int (rs m n k y)) = tI (raised m n k) from by unfold tI raised rs; rw [List.map_map]; rfl]
      exact h
end Dn
set_option Elab.async false
set_option linter.all false
set_option maxRecDepth 100000
set_option autoImplicit false
set_option maxHeartbeats 4000000
namespace Dn
open PySem L2 Evl PySem.Spec PyProof.Rows
local macro_rules | `(tactic| walk_at "dd") => `(tactic| simp only [sSeq, sIf, sSet, sRet, sRetN, sNx, sEx, sAsg, sPar, dTOr, dTAnd, dTNot, dTst, dIsi, dVar, dC, dBin, dChain, dNeg, dI2, dAnd, dOr, dNot, dIfE, dCall, dCallF, aCons, aNil, dTup, lLst, dOfL, xIm, xOw, gNm, gTp, gsCons, gsNil, dYes, envD, dLen_tR, dLen_tI, dLen_tup, dLen_lst, seq_tR, seq_tI, seq_tup, seq_lst, dIs, dIsNot, dNe, dEq, dTupOf, dSl, oNone, oSome, iSq, iEn, iR1, iR2, sFor, lLc, sNever, dTRg, rg1, rg2, lRg, wipeD, isN,
  dIxP, sSub, dApp, dPopAt, dExt, dCallM, dCallO, dBinO, dTupO, lOf, lOfO, sRetO, iOw, dVarF, lCat, lCall, dAbs, dMax2, dMin2, dInt, atO, setO, MO.getL, MO.putL, Option.isSome_some,
  lSortT, dOfK, xOwK, lDc, dMinL, dIndex, lRep, dInK, dGetK, dGetD, dInD, dGet1, lKeys, lSort, dLenSet, dRevT, sPutK, xDct, xDct1, sRetK, atK, keyD, sAugI,
  kit_int, kit_bool, kit_tuple, kit_str, List.map_cons, List.map_nil, List.cons_append, List.nil_append, List.replicate, List.set_cons_zero, List.set_cons_succ, List.getElem?_cons_zero, List.getElem?_cons_succ, List.length_cons, List.length_nil, List.length_map, Nat.reduceAdd, Nat.reduceSub, Bool.not_true, Bool.not_false, Bool.false_eq_true, if_true, if_false, true_and, reduceCtorEq, Bool.true_eq_false, rgD_rgI, Option.some.injEq, exists_eq_left', and_true])
theorem v__law_cycles : VD g__law_cycles S__law_cycles 1 4 := fun ds Q _ h => by
  obtain ⟨n, m, rfl, hm, hn, h⟩ := h
  have hl := hm.len
  have hz : (100000 : Nat) < sizeLine := by decide
  unfold g__law_cycles
  try walk_at "dd"
  refine ⟨by decide, by rw [hl]; exact rgd (by omega), ?_⟩
  rw [hl]
  refine wpFor_cps (fun done ρ => ∃ (l1 : List Int) (kvs : List (Key × D)) (x3 x4 : Option SV), done = l1.map PyData.int ∧ ρ = [some (.im (tI m)), some (.ow (.lst ((part m n l1).map tI))), some (.ow (.dct kvs)), x3, x4] ∧ kvs.length ≤ 50 * l1.length ∧ ∀ x : Int, (valD kvs (.inl x)).isSome = true ↔ met m n l1 x)
    ⟨[], [], _, _, rfl, rfl, by simp, fun x => by simp [valD, met]⟩ (fun done d rest ρ K e p k => ?_) (fun ρ p => ?_)
  · obtain ⟨l1', kvs, x3, x4, ed, rfl, kl, kv⟩ := p
    obtain ⟨l1, i, l2, e1, rfl, rfl, rfl⟩ := map_split e
    obtain rfl : l1 = l1' := by
      have := congrArg (List.map intD) ed
      rw [intD_map, intD_map] at this
      exact this
    have ll : l1.length < n := by
      have := congrArg List.length e1
      rw [rgI_len] at this
      simp at this
      omega
    obtain ⟨ri, ml⟩ := met_lead hm e1
    try walk_at "dd"
    refine ⟨_, _, rfl, rfl, ?_⟩
    cases hv : (valD kvs (.inl i)).isSome with
    | true =>
      have lf := ml.1 ((kv i).1 hv)
      try walk_at "dd"
      refine k _ ⟨l1 ++ [i], kvs, _, _, by simp, by rw [part_no lf], by simp; omega, fun x => by rw [met_no lf]; exact kv x⟩
    | false =>
      have lt : lead m n i = true := by
        cases e2 : lead m n i with
        | true => rfl
        | false => have := (kv i).2 (ml.2 e2); rw [hv] at this; cases this
      have ps := per_spec hm ri
      try walk_at "dd"
      refine ⟨by decide, _, _, rfl, rfl, by omega, ?_⟩
      unfold sWh
      refine wpWh_lt (β := Nat) (fun c ρ => ∃ kvs2, ρ = [some (.im (tI m)), some (.ow (.lst ((part m n l1).map tI))), some (.ow (.dct kvs2)), some (.im (.int i)), some (.ow (.lst (itD m i c)))] ∧ (1 ≤ c ∧ c ≤ per m n i) ∧ kvs2.length ≤ 50 * l1.length + c ∧ ∀ x : Int, (valD kvs2 (.inl x)).isSome = true ↔ met m n l1 x ∨ ∃ j, j < c ∧ x = it m j i) (fun c => per m n i - c) (fun c ρ K2 p2 k2 => ?_) (b := 1) ⟨_, rfl, ⟨by decide, ps.1⟩, ?_, fun x => ?_⟩
      · obtain ⟨kvs2, rfl, ⟨c1, c2⟩, kl2, kv2⟩ := p2
        have rc := it_rng hm ri (c - 1)
        try walk_at "dd"
        refine ⟨_, _, _, rfl, rfl, itD_last c1, ix_im hm rc.1 rc.2 ?_⟩
        rw [im_it c1]
        refine ⟨rfl, rfl, ?_⟩
        simp only [PyData.eqv]
        refine ite_ways (fun z => ?_) (fun z => ?_)
        · have ne : it m c i ≠ i := by simpa using z
          have lt2 : c < per m n i := by
            by_cases w : c = per m n i
            · rw [w, ps.2.2.1] at ne; exact absurd rfl ne
            · omega
          try walk_at "dd"
          refine ⟨_, _, _, rfl, rfl, itD_last c1, ix_im hm rc.1 rc.2 ⟨by rw [itD_len]; omega, ?_⟩⟩
          rw [im_it c1, itD_snoc]
          refine ⟨_, _, _, rfl, rfl, itD_last (by omega), _, _, rfl, rfl, by omega, ?_⟩
          rw [show c + 1 - 1 = c from rfl]
          refine k2 (c + 1) _ (by omega) ⟨_, rfl, ⟨by omega, by omega⟩, ?_, fun x => ?_⟩
          · have := putD_len (kvs := kvs2) (k := .inl (it m c i)) (d := .bool true)
            omega
          · rw [putD_has, kv2 x]
            simp only [Sum.inl.injEq]
            constructor
            · rintro (h | h | ⟨j, h1, h2⟩)
              · exact .inr ⟨c, by omega, h⟩
              · exact .inl h
              · exact .inr ⟨j, by omega, h2⟩
            · rintro (h | ⟨j, h1, h2⟩)
              · exact .inr (.inl h)
              · by_cases w : j = c
                · subst w; exact .inl h2
                · exact .inr (.inr ⟨j, by omega, h2⟩)
        · have ec : it m c i = i := by simpa using z
          obtain rfl := per_at hm ri c1 c2 ec
          rw [itD_cyc]
          have pl := part_len (m := m) (n := n) (l := l1)
          try walk_at "dd"
          refine ⟨by omega, ?_⟩
          rw [show (part m n l1).map tI ++ [PyData.tuple ((cyc m n i).map PyData.int)] = (part m n (l1 ++ [i])).map tI from by rw [part_yes lt]; simp [tI]]
          refine k _ ⟨l1 ++ [i], kvs2, _, _, by simp, rfl, by simp; omega, fun x => ?_⟩
          rw [kv2 x, met_snoc lt, mem_cyc]
      · have := putD_len (kvs := kvs) (k := .inl i) (d := .bool true)
        omega
      · rw [putD_has, kv x]
        simp only [Sum.inl.injEq]
        constructor
        · rintro (h | h)
          · exact .inr ⟨0, by decide, h⟩
          · exact .inl h
        · rintro (h | ⟨j, h1, h2⟩)
          · exact .inr h
          · have : j = 0 := by omega
            subst this
            exact .inl h2
  · obtain ⟨l1, kvs, x3, x4, ed, rfl, kl, kv⟩ := p
    obtain rfl : rgI n = l1 := by
      have := congrArg (List.map intD) ed
      rw [intD_map, intD_map] at this
      exact this
    try walk_at "dd"
    exact h
end Dn
set_option Elab.async false
set_option linter.all false
set_option maxRecDepth 100000
set_option autoImplicit false
set_option maxHeartbeats 4000000
namespace Dn
open PySem L2 Evl PySem.Spec PyProof.Rows
local macro_rules | `(tactic| walk_at "dd") => `(tactic| simp only [sSeq, sIf, sSet, sRet, sRetN, sNx, sEx, sAsg, sPar, dTOr, dTAnd, dTNot, dTst, dIsi, dVar, dC, dBin, dChain, dNeg, dI2, dAnd, dOr, dNot, dIfE, dCall, dCallF, aCons, aNil, dTup, lLst, dOfL, xIm, xOw, gNm, gTp, gsCons, gsNil, dYes, envD, dLen_tR, dLen_tI, dLen_tup, dLen_lst, seq_tR, seq_tI, seq_tup, seq_lst, dIs, dIsNot, dNe, dEq, dTupOf, dSl, oNone, oSome, iSq, iEn, iR1, iR2, sFor, lLc, sNever, dTRg, rg1, rg2, lRg, wipeD, isN,
  dIxP, sSub, dApp, dPopAt, dExt, dCallM, dCallO, dBinO, dTupO, lOf, lOfO, sRetO, iOw, dVarF, lCat, lCall, dAbs, dMax2, dMin2, dInt, atO, setO, MO.getL, MO.putL, Option.isSome_some,
  dInK, dGetK, dGetD, dInD, dGet1, lKeys, lSort, dLenSet, dRevT, sPutK, xDct, xDct1, sRetK, atK, keyD, sAugI,
  kit_int, kit_bool, kit_tuple, kit_str, List.map_cons, List.map_nil, List.cons_append, List.nil_append, List.replicate, List.set_cons_zero, List.set_cons_succ, List.getElem?_cons_zero, List.getElem?_cons_succ, List.length_cons, List.length_nil, List.length_map, Nat.reduceAdd, Nat.reduceSub, Bool.not_true, Bool.not_false, Bool.false_eq_true, if_true, if_false, true_and, reduceCtorEq, Bool.true_eq_false, rgD_rgI, Option.some.injEq, exists_eq_left', and_true])
theorem v_way : VD g_way S_way 4 0 := fun ds Q _ h => by
  obtain ⟨n, mk, s, g, rfl, hk, hs, hg, h⟩ := h
  unfold g_way
  walk_at "dd"
  refine ⟨n, mk, s, g, rfl, hk, hs, hg, n, mk, s, rfl, hk, hs, ⟨_, rfl⟩, _, _, rfl, rfl, ?_⟩
  rw [valD_wk]
  cases e : lk (waysOf mk n s) g with
  | none => rw [e] at h; exact h
  | some p => rw [e] at h; exact h
theorem row_ints {m n : Int} {d : D} (h : isRow m n d = true) : ∃ ns : List Int, d = tI ns ∧ (ns.length : Int) = m ∧ ∀ i, i ∈ ns → 0 ≤ i ∧ i < n := by
  cases d with
  | tuple xs =>
    simp only [isRow, Bool.and_eq_true, decide_eq_true_eq] at h
    refine ⟨xs.map intD, by unfold tI; rw [← all_ints h.2], by simpa using h.1, fun i hi => ?_⟩
    obtain ⟨x, hx, rfl⟩ := List.mem_map.mp hi
    obtain ⟨j, rfl, h1, h2⟩ := isTh_int (List.all_eq_true.mp h.2 x hx)
    exact ⟨h1, h2⟩
  | _ => simp [isRow] at h
theorem walk_rng {n : Nat} {mk : List (List Int)} (hk : Mk n mk) {p : List Int} {a : Int} (ha : 0 ≤ a ∧ a < n) (hp : ∀ i, i ∈ p → 0 ≤ i ∧ i < mk.length) : 0 ≤ walk mk a p ∧ walk mk a p < n :=
  walk_in hk (fun x => 0 ≤ x ∧ x < n) (fun x m hx hm => im_in (hk.move m hm) hx.1 hx.2) p a ha fun i hi => mem_rgI.mpr (hp i hi)
theorem v_is_way : VD g_is_way S_is_way 5 3 := fun ds Q _ h => by
  obtain ⟨n, mk, s, g, d, rfl, hk, hs, hg, hd, h⟩ := h
  have h1 := hk.few
  unfold g_is_way
  walk_at "dd"
  refine ⟨n, mk, s, g, rfl, hk, hs, hg, n, mk, s, rfl, hk, hs, ⟨_, rfl⟩, _, _, rfl, rfl, ?_⟩
  rw [valD_wk]
  unfold isWay at h
  cases e : lk (waysOf mk n s) g with
  | none => rw [e] at h; exact h
  | some p =>
    rw [e] at h
    dsimp only [Option.map_some, Option.getD_some] at h ⊢
    unfold tI
    try walk_at "dd"
    refine ⟨d, _, _, rfl, hd, by omega, ?_⟩
    refine ite_ways (fun e2 => ?_) (fun e2 => ?_)
    · rw [show isRow (p.length : Int) (mk.length : Int) d = false from by simpa using e2] at h
      exact h
    · rw [show isRow (p.length : Int) (mk.length : Int) d = true from by simpa using e2] at h
      obtain ⟨ns, rfl, nl, hn⟩ := row_ints (m := p.length) (n := mk.length) (d := d) (by simpa using e2)
      simp only [tI, intD_map, Bool.true_and] at h
      unfold tI
      try walk_at "dd"
      refine wpFor_cps (fun done ρ => ∃ (x : Option SV) (ns1 : List Int), done = ns1.map PyData.int ∧ (∀ i, i ∈ ns1 → 0 ≤ i ∧ i < mk.length) ∧ ρ = [some (.im (.int n)), some (.im (tR mk)), some (.im (.int s)), some (.im (.int g)), some (.im (tI ns)), some (.im (tI p)), some (.im (.int (walk mk s ns1))), x]) ⟨_, [], rfl, by simp, rfl⟩ (fun done d rest ρ K e3 p3 k => ?_) (fun ρ p3 => ?_)
      · obtain ⟨x, ns1, rfl, hn1, rfl⟩ := p3
        obtain ⟨l1, i, l2, rfl, e4, rfl, rfl⟩ := map_split e3
        obtain rfl : ns1 = l1 := by
          have := congrArg (List.map intD) e4
          rw [intD_map, intD_map] at this
          exact this
        have hi := hn i (by simp)
        try walk_at "dd"
        have hm := hk.at (mem_rgI.mpr hi)
        have hw := walk_rng hk hs hn1
        refine ixR hi.1 hi.2 (ix_im (hk.move _ hm) hw.1 hw.2 ?_)
        rw [← walk_snoc]
        exact k _ ⟨_, ns1 ++ [i], by simp, fun j hj => by
          rcases List.mem_append.mp hj with hj | hj
          · exact hn1 j hj
          · rw [List.mem_singleton.mp hj]; exact hi, rfl⟩
      · obtain ⟨x, ns1, e4, hn1, rfl⟩ := p3
        obtain rfl : ns = ns1 := by
          have := congrArg (List.map intD) e4
          rw [intD_map, intD_map] at this
          exact this
        try walk_at "dd"
        refine ⟨rfl, rfl, ?_⟩
        simp only [PyData.eqv]
        rw [show (walk mk s ns == g) = decide (walk mk s ns = g) from by rw [Bool.eq_iff_iff]; simp]
        exact h
theorem v_orbits : VD g_orbits S_orbits 2 5 := fun ds Q _ h => by
  obtain ⟨n, mk, rfl, hk, h⟩ := h
  have h1 := hk.most
  have hsz : (1000 : Nat) < sizeLine := by decide
  unfold g_orbits
  walk_at "dd"
  refine ⟨n, mk, rfl, hk, ⟨by decide, rgd (by omega), ?_⟩⟩
  refine wpFor_cps (fun done ρ => ∃ kvs lots x2 x3 x4, ρ = [some (.im (.int n)), some (.im (tR mk)), some (.ow (.dct kvs)), some (.ow (.lst (lots.map tI))), x2, x3, x4] ∧ kvs.length ≤ done.length * 24 ∧ lots.length ≤ done.length ∧
      (∀ l, l ∈ lots → l.length ≤ n ∧ ∃ a : Int, 0 ≤ a ∧ a < n ∧ ∀ x, x ∈ l ↔ ky mk n a x) ∧ (∀ x : Int, (valD kvs (.inl x)).isSome = true ↔ ∃ l, l ∈ lots ∧ x ∈ l) ∧ ∀ x, PyData.int x ∈ done → ∃ l, l ∈ lots ∧ x ∈ l)
    ⟨[], [], _, _, _, rfl, by simp, by simp, by simp, by simp [valD], by simp⟩ (fun done d rest ρ K e p k => ?_) (fun ρ p => ?_)
  · obtain ⟨kvs, lots, x2, x3, x4, rfl, kl, ll, he, hv, hd⟩ := p
    have dl := congrArg List.length e
    simp [rgI_len] at dl
    have hdm : d ∈ (rgI n).map PyData.int := by rw [e]; simp
    obtain ⟨a, ha, rfl⟩ := List.mem_map.mp hdm
    have ra := mem_rgI.mp ha
    try walk_at "dd"
    refine ⟨_, _, rfl, rfl, ?_⟩
    refine ite_ways (fun e2 => ?_) (fun e2 => ?_)
    · have nw : ¬ (valD kvs (.inl a)).isSome = true := by simpa using e2
      try walk_at "dd"
      refine ⟨n, mk, a, rfl, hk, ra, _, rfl, ?_⟩
      have W := (ways_ok hk ra.1 ra.2).1
      have wl := W.len
      refine ⟨(waysOf mk n a).map (·.1), by simp [wk, keyB, Function.comp_def, seqD], ⟨_, rfl⟩, fun ns hp hs => ?_⟩
      have nl : ns.length ≤ n := by rw [hp.length_eq]; simpa using wl
      have nm : ∀ x, x ∈ ns ↔ ky mk n a x := fun x => by
        rw [hp.mem_iff]
        unfold ky
        rw [lk_some]
        simp only [List.mem_map]
      try walk_at "dd"
      refine wpFor_cps (fun done2 ρ => ∃ kvs2 x4, ρ = [some (.im (.int n)), some (.im (tR mk)), some (.ow (.dct kvs2)), some (.ow (.lst (lots.map tI))), some (.im (.int a)), some (.im (.list (ns.map PyData.int))), x4] ∧ kvs2.length ≤ done.length * 24 + done2.length ∧
        ∀ x : Int, (valD kvs2 (.inl x)).isSome = true ↔ (∃ l, l ∈ lots ∧ x ∈ l) ∨ PyData.int x ∈ done2) ⟨kvs, _, rfl, by simpa using kl, by simpa using hv⟩ (fun done2 d rest2 ρ K2 e3 p k2 => ?_) (fun ρ p => ?_)
      · obtain ⟨kvs2, x4, rfl, kl2, hv2⟩ := p
        have dl2 := congrArg List.length e3
        simp at dl2
        obtain ⟨x, hx, rfl⟩ : ∃ x, x ∈ ns ∧ PyData.int x = d := List.mem_map.mp (by rw [e3]; simp)
        try walk_at "dd"
        refine ⟨_, _, rfl, rfl, by omega, ?_⟩
        refine k2 _ ⟨_, _, rfl, ?_, fun y => ?_⟩
        · have := putD_len (kvs := kvs2) (k := .inl x) (d := .bool true)
          simp
          omega
        · rw [putD_has, hv2 y]
          simp only [List.mem_append, List.mem_singleton, Sum.inl.injEq, PyData.int.injEq]
          constructor
          · rintro (h | h | h)
            · exact .inr (.inr h)
            · exact .inl h
            · exact .inr (.inl h)
          · rintro (h | h | h)
            · exact .inr (.inl h)
            · exact .inr (.inr h)
            · exact .inl h
      · obtain ⟨kvs2, x4, rfl, kl2, hv2⟩ := p
        simp at kl2
        try walk_at "dd"
        refine ⟨by omega, ?_⟩
        rw [show lots.map tI ++ [PyData.tuple (ns.map PyData.int)] = (lots ++ [ns]).map tI from by simp [tI]]
        refine k _ ⟨_, _, _, _, _, rfl, by simp; omega, by simp; omega, fun l hl => ?_, fun x => ?_, fun x hx => ?_⟩
        · rcases List.mem_append.mp hl with hl | hl
          · exact he l hl
          · rw [List.mem_singleton.mp hl]; exact ⟨nl, a, ra.1, ra.2, nm⟩
        · rw [hv2 x]
          simp only [List.mem_append, List.mem_singleton, List.mem_map, PyData.int.injEq, exists_eq_right]
          constructor
          · rintro (⟨l, h1, h2⟩ | h)
            · exact ⟨l, .inl h1, h2⟩
            · exact ⟨ns, .inr rfl, h⟩
          · rintro ⟨l, h1 | rfl, h2⟩
            · exact .inl ⟨l, h1, h2⟩
            · exact .inr h2
        · simp only [List.mem_append, List.mem_singleton, PyData.int.injEq] at hx
          rcases hx with hx | rfl
          · obtain ⟨l, h1, h2⟩ := hd x hx
            exact ⟨l, by simp [h1], h2⟩
          · exact ⟨ns, by simp, (nm x).2 (ky_self hk ra.1 ra.2)⟩
    · have yw : (valD kvs (.inl a)).isSome = true := by simpa using e2
      try walk_at "dd"
      refine k _ ⟨_, _, _, _, _, rfl, by simp; omega, by simp; omega, he, hv, fun x hx => ?_⟩
      simp only [List.mem_append, List.mem_singleton, PyData.int.injEq] at hx
      rcases hx with hx | rfl
      · exact hd x hx
      · exact (hv x).1 yw
  · obtain ⟨kvs, lots, x2, x3, x4, rfl, kl, ll, he, hv, hd⟩ := p
    simp [rgI_len] at ll
    try walk_at "dd"
    exact h lots ⟨ll, he, fun x x0 x1 => hd x (List.mem_map.mpr ⟨x, mem_rgI.mpr ⟨x0, x1⟩, rfl⟩)⟩
end Dn
set_option Elab.async false
set_option linter.all false
set_option maxRecDepth 100000
set_option autoImplicit false
set_option maxHeartbeats 4000000
namespace Dn.K01
open PySem L2 Evl PySem.Spec PyProof.Rows SrL
local macro_rules | `(tactic| walk_at "dd") => `(tactic| simp only [sSeq, sIf, sSet, sRet, sRetN, sNx, sEx, sAsg, sPar, dTOr, dTAnd, dTNot, dTst, dIsi, dVar, dC, dBin, dChain, dNeg, dI2, dAnd, dOr, dNot, dIfE, dCall, dCallF, aCons, aNil, dTup, lLst, dOfL, xIm, xOw, gNm, gTp, gsCons, gsNil, dYes, envD, dLen_tR, dLen_tI, dLen_tup, dLen_lst, seq_tR, seq_tI, seq_tup, seq_lst, dIs, dIsNot, dNe, dEq, dTupOf, dSl, oNone, oSome, iSq, iEn, iR1, iR2, sFor, lLc, sNever, dTRg, rg1, rg2, lRg, wipeD, isN,
  gTpL, dIxP, sSub, dApp, dPopAt, dExt, dCallM, dCallO, dBinO, dTupO, lOf, lOfO, sRetO, iOw, dVarF, lCat, lCall, dAbs, dMax2, dMin2, dInt, atO, setO, MO.getL, MO.putL, Option.isSome_some,
  dInK, dGetK, dGetD, dInD, dGet1, lKeys, lSort, dLenSet, dLenSetL, dLenSet2, sPar3, dRevT, sPutK, xDct, xDct1, sRetK, atK, keyD, sAugI, xDctT1, xDctOf, dInT, sPutT, lSortT2, lSortDT, dPop, dBinR, dKeep, dCallMO, sWh, atT, dCallO,
  kit_int, kit_bool, kit_tuple, kit_str, List.map_cons, List.map_nil, List.cons_append, List.nil_append, List.replicate, List.set_cons_zero, List.set_cons_succ, List.getElem?_cons_zero, List.getElem?_cons_succ, List.length_cons, List.length_nil, List.length_map, Nat.reduceAdd, Nat.reduceSub, Bool.not_true, Bool.not_false, Bool.false_eq_true, if_true, if_false, true_and, reduceCtorEq, Bool.true_eq_false, rgD_rgI, Option.some.injEq, exists_eq_left', and_true])
def mkD (F : List (List Int)) : List (List Int × D) := F.map fun f => (f, .bool true)
theorem valT_mkD {F : List (List Int)} {k : List Int} : (valT (mkD F) k).isSome = decide (k ∈ F) := by
  induction F with
  | nil => simp [mkD, valT]
  | cons f F ih =>
    unfold mkD valT at ih ⊢
    rw [List.map_cons, List.find?_cons]
    by_cases e : f = k
    · simp [e]
    · rw [show (decide ((f, PyData.bool true).1 = k)) = false from decide_eq_false e]
      dsimp only
      rw [ih]
      simp [Ne.symm e]
theorem putT_mkD {F : List (List Int)} {k : List Int} (h : k ∉ F) : putT (mkD F) k (.bool true) = mkD (F ++ [k]) := by
  unfold putT
  rw [if_neg]
  · simp [mkD]
  · simp only [mkD, List.any_map, List.any_eq_true, Function.comp_apply, decide_eq_true_eq, not_exists, not_and]
    intro x hx e
    exact h (e ▸ hx)
structure Cw (mk : List (List Int)) (n : Nat) (F : List (List Int)) (r : Nat) : Prop where
  nd : F.Nodup
  one : rgI n ∈ F
  g : ∀ f, f ∈ F → gen mk n f
  le : r ≤ F.length
  cl : ∀ j, j < r → ∀ m, m ∈ mk → jn (F.getD j []) m ∈ F
theorem Cw.few {mk : List (List Int)} {n : Nat} {F : List (List Int)} {r : Nat} (h : Cw mk n F r) (hk : Mk n mk) (hn : n ≤ 6) : F.length ≤ 720 := by
  refine Nat.le_trans (list_few hk h.nd fun f hf => gen_mv hk (h.g f hf)) ?_
  have : ∀ n, n ≤ 6 → ff n n ≤ 720 := by decide
  exact this n hn
theorem Cw.grp {mk : List (List Int)} {n : Nat} {F : List (List Int)} (h : Cw mk n F F.length) (hk : Mk n mk) : Grp mk n F := by
  refine ⟨h.nd, fun g => ⟨h.g g, fun hg => ?_⟩⟩
  refine all_right hk (S := fun g => g ∈ F) h.one (fun g m _ hs hm => ?_) hg
  obtain ⟨j, hj, e⟩ := List.mem_iff_getElem.mp hs
  have := h.cl j hj m hm
  rwa [List.getD_eq_getElem?_getD, List.getElem?_eq_getElem hj, Option.getD_some, e] at this
theorem tI_inj {a b : List Int} (h : tI a = tI b) : a = b := by
  have := congrArg (fun d => match d with | PyData.tuple xs => xs.map intD | _ => []) h
  simpa only [tI, intD_map] using this
theorem at_tI {F : List (List Int)} {r : Nat} (h : r < F.length) : atI (F.map tI) (r : Int) = some (tI (F.getD r [])) := by
  have := atI_in (d := tI []) (l := F.map tI) (i := (r : Int)) (by omega) (by simpa using h)
  rw [this]
  simp [List.getD_eq_getElem?_getD, List.getElem?_eq_getElem h]
theorem getD_app {α : Type} {l X : List α} {j : Nat} {d : α} (h : j < l.length) : (l ++ X).getD j d = l.getD j d := by
  rw [List.getD_eq_getElem?_getD, List.getD_eq_getElem?_getD, List.getElem?_append_left h]
theorem v_closure_within : VD g_closure_within S_closure_within 3 5 := fun ds Q _ h => by
  obtain ⟨n, mk, rfl, hk, hn, h⟩ := h
  have hsz : (1000 : Nat) < sizeLine := by decide
  unfold g_closure_within
  walk_at "dd"
  refine ⟨⟨by omega, by omega, by omega, by omega⟩, ?_⟩
  refine ⟨by decide, _, _, _, rfl, rfl, rfl, rgI n, rfl, ?_⟩
  have hid : ∀ g, g ∈ [rgI n] → gen mk n g := fun g hg => by rw [List.mem_singleton.mp hg]; exact gen_id
  refine wpWh_lt (β := List (List Int) × Nat) (fun b ρ => ∃ x6 x7, ρ = [some (.im (.int n)), some (.im (tR mk)), some (.im (.int 1000)), some (.ow (.lst (b.1.map tI))), some (.ow (.dtu (mkD b.1))), some (.im (.int b.2)), x6, x7] ∧ Cw mk n b.1 b.2) (fun b => 721 - b.2) (fun b ρ K p k => ?_) (b := ([rgI n], 0)) ⟨_, _, rfl, by simp, by simp, hid, by simp, by simp⟩
  obtain ⟨F, r⟩ := b
  obtain ⟨x6, x7, rfl, C⟩ := p
  dsimp only at C k ⊢
  have fl := C.few hk hn
  walk_at "dd"
  refine ⟨rfl, ite_ways (fun e => ?_) (fun e => ?_)⟩
  · have rl : r < F.length := by
      have : (r : Int) < F.length := by simpa using e
      omega
    refine wpFor_cps (fun done ρ => ∃ (F' : List (List Int)) (x6 x7 : Option SV), ρ = [some (.im (.int n)), some (.im (tR mk)), some (.im (.int 1000)), some (.ow (.lst (F'.map tI))), some (.ow (.dtu (mkD F'))), some (.im (.int r)), x6, x7] ∧ Cw mk n F' r ∧ F <+: F' ∧ ∀ m, tI m ∈ done → jn (F.getD r []) m ∈ F') ⟨F, _, _, rfl, C, List.prefix_refl _, by simp⟩ (fun done d rest ρ K2 e2 p k2 => ?_) (fun ρ p => ?_)
    · obtain ⟨F', x6, x7, rfl, C', pre, hd⟩ := p
      obtain ⟨m, hm, rfl⟩ : ∃ m, m ∈ mk ∧ tI m = d := List.mem_map.mp (by rw [e2]; simp)
      have fl' := C'.few hk hn
      have pl := pre.length_le
      have same : F'.getD r [] = F.getD r [] := by
        obtain ⟨X, rfl⟩ := pre
        rw [List.getD_eq_getElem?_getD, List.getD_eq_getElem?_getD, List.getElem?_append_left rl]
      have fm : F.getD r [] ∈ F' := by rw [← same]; exact getD_mem (by omega)
      have fg := C'.g _ fm
      walk_at "dd"
      refine ⟨_, _, _, rfl, rfl, at_tI (by omega), ?_⟩
      rw [same]
      refine ⟨n, F.getD r [], m, rfl, gen_mv hk fg, hk.move m hm, by omega, ?_⟩
      refine ⟨mkD F', jn (F.getD r []) m, rfl, rfl, ?_⟩
      rw [valT_mkD]
      refine ite_ways (fun e3 => ?_) (fun e3 => ?_)
      · have nin : jn (F.getD r []) m ∉ F' := by simpa using e3
        try walk_at "dd"
        refine ⟨mkD F', jn (F.getD r []) m, rfl, rfl, by simp [mkD]; omega, ?_⟩
        try walk_at "dd"
        refine ⟨by omega, ?_⟩
        rw [putT_mkD nin, show F'.map tI ++ [tI (jn (F.getD r []) m)] = (F' ++ [jn (F.getD r []) m]).map tI from by simp]
        have pre' : F <+: F' ++ [jn (F.getD r []) m] := pre.trans (List.prefix_append _ _)
        refine k2 _ ⟨F' ++ [jn (F.getD r []) m], _, _, rfl, ⟨?_, by simp [C'.one], fun f hf => ?_, by have := C'.le; simp; omega, fun j hj m' hm' => ?_⟩, pre', fun m' hm' => ?_⟩
        · rw [List.nodup_append]
          refine ⟨C'.nd, by simp, fun a ha b hb e => nin ?_⟩
          rw [List.mem_singleton.mp hb] at e
          exact e ▸ ha
        · rcases List.mem_append.mp hf with hf | hf
          · exact C'.g f hf
          · rw [List.mem_singleton.mp hf]; exact gen_right hk fg hm
        · have jl : j < F'.length := by have := C'.le; omega
          have := C'.cl j hj m' hm'
          rw [getD_app jl]
          exact List.mem_append_left _ this
        · rcases List.mem_append.mp hm' with hm' | hm'
          · exact List.mem_append_left _ (hd m' hm')
          · rw [tI_inj (List.mem_singleton.mp hm')]; simp
      · have yin : jn (F.getD r []) m ∈ F' := by simpa using e3
        refine k2 _ ⟨F', _, _, rfl, C', pre, fun m' hm' => ?_⟩
        rcases List.mem_append.mp hm' with hm' | hm'
        · exact hd m' hm'
        · rw [tI_inj (List.mem_singleton.mp hm')]; exact yin
    · obtain ⟨F', x6, x7, rfl, C', pre, hd⟩ := p
      have fl' := C'.few hk hn
      have pl := pre.length_le
      walk_at "dd"
      refine ⟨rfl, ?_⟩
      rw [if_neg (by simp; omega)]
      have rd : F'.getD r [] = F.getD r [] := by
        obtain ⟨X, rfl⟩ := pre
        rw [List.getD_eq_getElem?_getD, List.getD_eq_getElem?_getD, List.getElem?_append_left rl]
      refine k (F', r + 1) _ (by dsimp only; omega) ⟨_, _, rfl, C'.nd, C'.one, C'.g, by dsimp only; omega, fun j hj m hm => ?_⟩
      rcases Nat.lt_succ_iff_lt_or_eq.mp hj with hj | hj
      · exact C'.cl j hj m hm
      · subst hj
        dsimp only
        rw [rd]
        exact hd m (List.mem_map.mpr ⟨m, hm, rfl⟩)
  · have re : r = F.length := by
      have : ¬ (r : Int) < F.length := by simpa using e
      have := C.le
      omega
    subst re
    have G := C.grp hk
    refine ⟨F, rfl, fun h2 l hl => ?_, fun L' hp hs => ?_⟩
    · have ll := (gen_mv hk (C.g l hl)).len
      rintro rfl
      have n0 : n = 0 := by simpa using ll.symm
      subst n0
      have := list_few hk C.nd fun f hf => gen_mv hk (C.g f hf)
      simp [ff] at this
      omega
    · exact h L' ⟨hp.nodup_iff.2 G.nd, fun g => hp.mem_iff.trans (G.mem g)⟩ hs
theorem v_closure : VD g_closure S_closure 2 0 := fun ds Q _ h => by
  obtain ⟨n, mk, rfl, hk, hn, h⟩ := h
  unfold g_closure
  walk_at "dd"
  exact ⟨n, mk, rfl, hk, n, mk, rfl, hk, hn, h⟩
end Dn.K01
set_option Elab.async false
set_option linter.all false
set_option maxRecDepth 100000
set_option autoImplicit false
set_option maxHeartbeats 4000000
namespace Dn.K01
open PySem L2 Evl PySem.Spec PyProof.Rows SrL
local macro_rules | `(tactic| walk_at "dd") => `(tactic| simp only [sSeq, sIf, sSet, sRet, sRetN, sNx, sEx, sAsg, sPar, dTOr, dTAnd, dTNot, dTst, dIsi, dVar, dC, dBin, dChain, dNeg, dI2, dAnd, dOr, dNot, dIfE, dCall, dCallF, aCons, aNil, dTup, lLst, dOfL, xIm, xOw, gNm, gTp, gsCons, gsNil, dYes, envD, dLen_tR, dLen_tI, dLen_tup, dLen_lst, seq_tR, seq_tI, seq_tup, seq_lst, dIs, dIsNot, dNe, dEq, dTupOf, dSl, oNone, oSome, iSq, iEn, iR1, iR2, sFor, lLc, sNever, dTRg, rg1, rg2, lRg, wipeD, isN,
  gTpL, dIxP, sSub, dApp, dPopAt, dExt, dCallM, dCallO, dBinO, dTupO, lOf, lOfO, sRetO, iOw, dVarF, lCat, lCall, dAbs, dMax2, dMin2, dInt, atO, setO, MO.getL, MO.putL, Option.isSome_some,
  dInK, dGetK, dGetD, dInD, dGet1, lKeys, lSort, dLenSet, dLenSetL, dLenSet2, sPar3, dRevT, sPutK, xDct, xDct1, sRetK, atK, keyD, sAugI, xDctT1, xDctOf, dInT, sPutT, lSortT2, lSortDT, dPop, dBinR, dKeep, dCallMO, sWh, atT, dCallO,
  kit_int, kit_bool, kit_tuple, kit_str, List.map_cons, List.map_nil, List.cons_append, List.nil_append, List.replicate, List.set_cons_zero, List.set_cons_succ, List.getElem?_cons_zero, List.getElem?_cons_succ, List.length_cons, List.length_nil, List.length_map, Nat.reduceAdd, Nat.reduceSub, Bool.not_true, Bool.not_false, Bool.false_eq_true, if_true, if_false, true_and, reduceCtorEq, Bool.true_eq_false, rgD_rgI, Option.some.injEq, exists_eq_left', and_true])
abbrev stO (mk : List (List Int)) (n : Nat) (acc : List (List Int)) (x : Int) : List (List Int) := if (acc.any fun l => l.contains x) = true then acc else acc ++ [reach mk n x]
theorem reach_pw (mk : List (List Int)) (n : Nat) (x : Int) : (reach mk n x).Pairwise (· ≤ ·) := ((pw_rgI n).imp fun {a b} h => Int.le_of_lt h).filter _
theorem any_not {acc : List (List Int)} {x : Int} : (acc.any fun l => l.contains x) = false ↔ ¬ ∃ l, l ∈ acc ∧ x ∈ l := by
  rw [← any_in]
  simp
theorem v_orbits : VD g_orbits S_orbits 2 5 := fun ds Q _ h => by
  obtain ⟨n, mk, rfl, hk, h⟩ := h
  have h1 := hk.most
  have hsz : (1000 : Nat) < sizeLine := by decide
  unfold g_orbits
  walk_at "dd"
  refine ⟨n, mk, rfl, hk, ⟨by decide, rgd (by omega), ?_⟩⟩
  refine wpFor_cps (fun done ρ => ∃ (kvs : List (Key × D)) (xs : List Int) (x2 x3 x4 : Option SV), done = xs.map PyData.int ∧ ρ = [some (.im (.int n)), some (.im (tR mk)), some (.ow (.dct kvs)), some (.ow (.lst ((xs.foldl (stO mk n) []).map tI))), x2, x3, x4] ∧ kvs.length ≤ done.length * 24 ∧ (xs.foldl (stO mk n) []).length ≤ done.length ∧
      (∀ x : Int, (valD kvs (.inl x)).isSome = true ↔ ∃ l, l ∈ xs.foldl (stO mk n) [] ∧ x ∈ l))
    ⟨[], [], _, _, _, rfl, rfl, by simp, by simp, by simp [valD]⟩ (fun done d rest ρ K e p k => ?_) (fun ρ p => ?_)
  · obtain ⟨kvs, xs, x2, x3, x4, rfl, rfl, kl, ll, hv⟩ := p
    have dl := congrArg List.length e
    simp [rgI_len] at dl
    have hdm : d ∈ (rgI n).map PyData.int := by rw [e]; simp
    obtain ⟨a, ha, rfl⟩ := List.mem_map.mp hdm
    have ra := mem_rgI.mp ha
    rw [List.length_map] at kl ll
    have exs : xs.map PyData.int ++ [PyData.int a] = (xs ++ [a]).map PyData.int := by simp
    generalize hacc : xs.foldl (stO mk n) [] = acc at ll hv
    have facc : (xs ++ [a]).foldl (stO mk n) [] = stO mk n acc a := by rw [List.foldl_append, hacc]; rfl
    try walk_at "dd"
    refine ⟨_, _, rfl, rfl, ?_⟩
    refine ite_ways (fun e2 => ?_) (fun e2 => ?_)
    · have nw : ¬ (valD kvs (.inl a)).isSome = true := by simpa using e2
      have na : (acc.any fun l => l.contains a) = false := any_not.2 fun z => nw ((hv a).2 z)
      have fa : stO mk n acc a = acc ++ [reach mk n a] := if_neg (by rw [na]; simp)
      try walk_at "dd"
      refine ⟨n, mk, a, rfl, hk, ra, _, rfl, ?_⟩
      have W := (ways_ok hk ra.1 ra.2).1
      refine ⟨(waysOf mk n a).map (·.1), by simp [wk, keyB, Function.comp_def, seqD], ⟨_, rfl⟩, fun ns hp hs => ?_⟩
      have nm : ∀ x, x ∈ ns ↔ ky mk n a x := fun x => by
        rw [hp.mem_iff]
        unfold ky
        rw [lk_some]
        simp only [List.mem_map]
      have nsr : ns = reach mk n a := by
        refine pw_int_eq (perm_of_nodup (hp.nodup_iff.2 W.nd) ((nodup_rgI n).filter _) fun x => ?_) hs (reach_pw mk n a)
        rw [nm x]
        exact ⟨fun w => mem_reach.2 ⟨ky_rng hk ra.1 ra.2 w, w⟩, fun w => (mem_reach.1 w).2⟩
      have nl : ns.length ≤ n := by rw [hp.length_eq]; simpa using W.len
      try walk_at "dd"
      refine wpFor_cps (fun done2 ρ => ∃ kvs2 x4, ρ = [some (.im (.int n)), some (.im (tR mk)), some (.ow (.dct kvs2)), some (.ow (.lst (acc.map tI))), some (.im (.int a)), some (.im (.list (ns.map PyData.int))), x4] ∧ kvs2.length ≤ xs.length * 24 + done2.length ∧
        ∀ x : Int, (valD kvs2 (.inl x)).isSome = true ↔ (∃ l, l ∈ acc ∧ x ∈ l) ∨ PyData.int x ∈ done2) ⟨kvs, _, rfl, by simpa using kl, by simpa using hv⟩ (fun done2 d rest2 ρ K2 e3 p k2 => ?_) (fun ρ p => ?_)
      · obtain ⟨kvs2, x4, rfl, kl2, hv2⟩ := p
        have dl2 := congrArg List.length e3
        simp at dl2
        obtain ⟨x, hx, rfl⟩ : ∃ x, x ∈ ns ∧ PyData.int x = d := List.mem_map.mp (by rw [e3]; simp)
        try walk_at "dd"
        refine ⟨_, _, rfl, rfl, by omega, ?_⟩
        refine k2 _ ⟨_, _, rfl, ?_, fun y => ?_⟩
        · have := putD_len (kvs := kvs2) (k := .inl x) (d := .bool true)
          simp
          omega
        · rw [putD_has, hv2 y]
          simp only [List.mem_append, List.mem_singleton, Sum.inl.injEq, PyData.int.injEq]
          constructor
          · rintro (h | h | h)
            · exact .inr (.inr h)
            · exact .inl h
            · exact .inr (.inl h)
          · rintro (h | h | h)
            · exact .inr (.inl h)
            · exact .inr (.inr h)
            · exact .inl h
      · obtain ⟨kvs2, x4, rfl, kl2, hv2⟩ := p
        simp at kl2
        try walk_at "dd"
        refine ⟨by omega, ?_⟩
        rw [show acc.map tI ++ [PyData.tuple (ns.map PyData.int)] = (acc ++ [reach mk n a]).map tI from by simp [tI, nsr]]
        refine k _ ⟨_, xs ++ [a], _, _, _, exs, by rw [facc, fa], by simp; omega, by rw [facc, fa]; simp; omega, fun x => ?_⟩
        rw [facc, fa, hv2 x, ← nsr]
        simp only [List.mem_append, List.mem_singleton, List.mem_map, PyData.int.injEq, exists_eq_right]
        constructor
        · rintro (⟨l, h1, h2⟩ | h)
          · exact ⟨l, .inl h1, h2⟩
          · exact ⟨ns, .inr rfl, h⟩
        · rintro ⟨l, h1 | rfl, h2⟩
          · exact .inl ⟨l, h1, h2⟩
          · exact .inr h2
    · have yw : (valD kvs (.inl a)).isSome = true := by simpa using e2
      have fa : stO mk n acc a = acc := if_pos (any_in.2 ((hv a).1 yw))
      try walk_at "dd"
      exact k _ ⟨_, xs ++ [a], _, _, _, exs, by rw [facc, fa], by simp; omega, by rw [facc, fa]; simp; omega, by rw [facc, fa]; exact hv⟩
  · obtain ⟨kvs, xs, x2, x3, x4, ex, rfl, kl, ll, hv⟩ := p
    have exs : xs = rgI n := by
      have := congrArg (List.map intD) ex
      rw [intD_map, intD_map] at this
      exact this.symm
    subst exs
    try walk_at "dd"
    exact h
end Dn.K01
set_option Elab.async false
set_option linter.all false
set_option maxRecDepth 100000
set_option autoImplicit false
set_option maxHeartbeats 4000000
namespace Dn.K01
open PySem L2 Evl PySem.Spec PyProof.Rows SrL
local macro_rules | `(tactic| walk_at "dd") => `(tactic| simp only [sSeq, sIf, sSet, sRet, sRetN, sNx, sEx, sAsg, sPar, dTOr, dTAnd, dTNot, dTst, dIsi, dVar, dC, dBin, dChain, dNeg, dI2, dAnd, dOr, dNot, dIfE, dCall, dCallF, aCons, aNil, dTup, lLst, dOfL, xIm, xOw, gNm, gTp, gsCons, gsNil, dYes, envD, dLen_tR, dLen_tI, dLen_tup, dLen_lst, seq_tR, seq_tI, seq_tup, seq_lst, dIs, dIsNot, dNe, dEq, dTupOf, dSl, oNone, oSome, iSq, iEn, iR1, iR2, sFor, lLc, sNever, dTRg, rg1, rg2, lRg, wipeD, isN,
  gTpL, dIxP, sSub, dApp, dPopAt, dExt, dCallM, dCallO, dBinO, dTupO, lOf, lOfO, sRetO, iOw, dVarF, lCat, lCall, dAbs, dMax2, dMin2, dInt, atO, setO, MO.getL, MO.putL, Option.isSome_some,
  dInK, dGetK, dGetD, dInD, dGet1, lKeys, lSort, dLenSet, dLenSetL, dLenSet2, sPar3, dRevT, sPutK, xDct, xDct1, sRetK, atK, keyD, sAugI, xDctT1, xDctOf, dInT, sPutT, lSortT2, lSortDT, dPop, dBinR, dKeep, dCallMO, sWh, atT, dCallO,
  kit_int, kit_bool, kit_tuple, kit_str, List.map_cons, List.map_nil, List.cons_append, List.nil_append, List.replicate, List.set_cons_zero, List.set_cons_succ, List.getElem?_cons_zero, List.getElem?_cons_succ, List.length_cons, List.length_nil, List.length_map, Nat.reduceAdd, Nat.reduceSub, Bool.not_true, Bool.not_false, Bool.false_eq_true, if_true, if_false, true_and, reduceCtorEq, Bool.true_eq_false, rgD_rgI, Option.some.injEq, exists_eq_left', and_true])
theorem shaped_lT {C : List (List Int)} : SeqAt.shaped (.list (C.map tI)) = true := by
  have z : ∀ C : List (List Int), PyData.canLayAll0 (C.map tI) = true ∧ PyData.depthAll (C.map tI) ≤ 2 := by
    intro C
    induction C with
    | nil => exact ⟨rfl, by simp [PyData.depthAll]⟩
    | cons r C ih =>
      have a := shaped_tI r
      unfold SeqAt.shaped at a
      rw [Bool.and_eq_true] at a
      have b : (tI r).depth ≤ 2 := by
        unfold tI
        have : ∀ r : List Int, PyData.depthAll (r.map PyData.int) ≤ 1 := by
          intro r
          induction r with
          | nil => simp [PyData.depthAll]
          | cons x r ih => simp only [List.map_cons, PyData.depthAll, PyData.depth]; omega
        have := this r
        simp only [PyData.depth]; omega
      simp only [List.map_cons, PyData.canLayAll0, PyData.depthAll, Bool.and_eq_true]
      exact ⟨⟨a.1, ih.1⟩, by omega⟩
  have := z C
  unfold SeqAt.shaped
  simp only [PyData.canLay0, PyData.depth, this.1, Bool.true_and]
  exact decide_eq_true (by omega)
theorem eqv_nil {xs : List D} : PyData.eqv (.list xs) (.list []) = decide (xs = []) := by cases xs <;> simp [PyData.eqv, PyData.eqvAll]
theorem nl_tI (r : List Int) : NL (tI r) := .tup fun d hd => by
  obtain ⟨q, _, rfl⟩ := List.mem_map.mp hd
  exact .int q
theorem nl_dc {ms : List D} (h : Dc ms) : ∀ e, e ∈ ms → NL e := fun e he => by
  obtain ⟨a, b, c, rfl⟩ := h
  simp only [List.mem_cons, List.not_mem_nil, or_false] at he
  rcases he with rfl | rfl | rfl <;> exact .int _
structure Cl (mk : List (List Int)) (n : Nat) (F W : List (List Int)) (S : List Int → Prop) : Prop where
  nd : F.Nodup
  one : rgI n ∈ F
  g : ∀ f, f ∈ F → gen mk n f
  sub : ∀ w, w ∈ W → w ∈ F
  wl : W.length ≤ F.length
  cl : ∀ f, f ∈ F → f ∈ W ∨ S f ∨ ∀ m, m ∈ mk → jn m f ∈ F
theorem Cl.few {mk : List (List Int)} {n : Nat} {F W : List (List Int)} {S : List Int → Prop} (h : Cl mk n F W S) (hk : Mk n mk) (hn : n ≤ 6) : F.length ≤ 720 := by
  refine Nat.le_trans (list_few hk h.nd fun f hf => gen_mv hk (h.g f hf)) ?_
  have : ∀ n, n ≤ 6 → ff n n ≤ 720 := by decide
  exact this n hn
theorem v__law_closed_moves : VD g__law_closed_moves S__law_closed_moves 2 5 := fun ds Q _ h => by
  obtain ⟨n, mk, rfl, hk, n1, hn, h⟩ := h
  have hsz : (1000 : Nat) < sizeLine := by decide
  unfold g__law_closed_moves
  walk_at "dd"
  refine ⟨⟨by omega, by omega, by omega, by omega⟩, rgI n, rfl, ⟨by omega, by omega, by omega, by omega⟩, by decide, ?_⟩
  have hid : ∀ g, g ∈ [rgI n] → gen mk n g := fun g hg => by rw [List.mem_singleton.mp hg]; exact gen_id
  refine wpWh_lt (β := List (List Int) × List (List Int)) (fun b ρ => ∃ x4 x5 x6, ρ = [some (.im (.int n)), some (.im (tR mk)), some (.ow (.dtu (mkD b.1))), some (.ow (.lst (b.2.map tI))), x4, x5, x6] ∧ Cl mk n b.1 b.2 fun _ => False) (fun b => 2 * (721 - b.1.length) + b.2.length) (fun b ρ K p k => ?_) (b := ([rgI n], [rgI n])) ⟨_, _, _, rfl, by simp, by simp, hid, by simp, by simp, by simp⟩
  obtain ⟨F, W⟩ := b
  obtain ⟨x4, x5, x6, rfl, C⟩ := p
  dsimp only at C k ⊢
  have fl := C.few hk hn
  walk_at "dd"
  refine ⟨⟨_, rfl⟩, by decide, shaped_lT, by decide +kernel, ?_⟩
  rw [eqv_nil]
  refine ⟨rfl, ite_ways (fun e => ?_) (fun e => ?_)⟩
  · have wn : W ≠ [] := by
      rintro rfl
      simp at e
    obtain ⟨W0, w, rfl⟩ : ∃ W0 w, W = W0 ++ [w] := ⟨W.dropLast, W.getLast wn, (List.dropLast_concat_getLast wn).symm⟩
    refine ⟨W0.map tI, tI w, by simp, ?_⟩
    have wF : w ∈ F := C.sub w (by simp)
    have wg := C.g w wF
    refine wpFor_cps (fun done ρ => ∃ (F' X : List (List Int)) (x5 x6 : Option SV), ρ = [some (.im (.int n)), some (.im (tR mk)), some (.ow (.dtu (mkD F'))), some (.ow (.lst ((W0 ++ X).map tI))), some (.im (tI w)), x5, x6] ∧ Cl mk n F' (W0 ++ X) (fun f => f = w) ∧ F'.length = F.length + X.length ∧ (∀ f, f ∈ F → f ∈ F') ∧ ∀ m, tI m ∈ done → jn m w ∈ F') ⟨F, [], _, _, by rw [List.append_nil], ⟨C.nd, C.one, C.g, fun x hx => C.sub x (by simp at hx ⊢; exact .inl hx), by have := C.wl; simp at this ⊢; omega, fun f hf => ?_⟩, rfl, fun _ h => h, by simp⟩ (fun done d rest ρ K2 e2 p k2 => ?_) (fun ρ p => ?_)
    · rcases C.cl f hf with z | z | z
      · rcases List.mem_append.mp z with z | z
        · exact .inl (by simpa using z)
        · exact .inr (.inl (List.mem_singleton.mp z))
      · exact z.elim
      · exact .inr (.inr z)
    · obtain ⟨F', X, x5, x6, rfl, C', fx, keep, hd⟩ := p
      obtain ⟨m, hm, rfl⟩ : ∃ m, m ∈ mk ∧ tI m = d := List.mem_map.mp (by rw [e2]; simp)
      have fl' := C'.few hk hn
      walk_at "dd"
      refine ⟨n, m, w, rfl, hk.move m hm, gen_mv hk wg, by omega, ?_⟩
      refine ⟨mkD F', jn m w, rfl, rfl, ?_⟩
      rw [valT_mkD]
      refine ite_ways (fun e3 => ?_) (fun e3 => ?_)
      · have nin : jn m w ∉ F' := by simpa using e3
        try walk_at "dd"
        refine ⟨mkD F', jn m w, rfl, rfl, by simp [mkD]; omega, ?_⟩
        try walk_at "dd"
        have wl := C'.wl
        refine ⟨by omega, ?_⟩
        rw [putT_mkD nin, show (W0 ++ X).map tI ++ [tI (jn m w)] = (W0 ++ (X ++ [jn m w])).map tI from by simp]
        have wF' : w ∈ F' := keep w wF
        refine k2 _ ⟨F' ++ [jn m w], X ++ [jn m w], _, _, rfl, ⟨?_, by simp [C'.one], fun f hf => ?_, fun x hx => ?_, by simp at wl ⊢; omega, fun f hf => ?_⟩, by simp; omega, fun f hf => by simp [keep f hf], fun m' hm' => ?_⟩
        · rw [List.nodup_append]
          refine ⟨C'.nd, by simp, fun a ha b hb e => nin ?_⟩
          rw [List.mem_singleton.mp hb] at e
          exact e ▸ ha
        · rcases List.mem_append.mp hf with hf | hf
          · exact C'.g f hf
          · rw [List.mem_singleton.mp hf]; exact gen_left wg hm
        · rw [← List.append_assoc] at hx
          rcases List.mem_append.mp hx with hx | hx
          · exact List.mem_append_left _ (C'.sub x hx)
          · exact List.mem_append_right _ hx
        · rw [← List.append_assoc]
          rcases List.mem_append.mp hf with hf | hf
          · rcases C'.cl f hf with z | z | z
            · exact .inl (List.mem_append_left _ z)
            · exact .inr (.inl z)
            · exact .inr (.inr fun m' hm' => List.mem_append_left _ (z m' hm'))
          · exact .inl (List.mem_append_right _ hf)
        · rcases List.mem_append.mp hm' with hm' | hm'
          · exact List.mem_append_left _ (hd m' hm')
          · rw [tI_inj (List.mem_singleton.mp hm')]; simp
      · have yin : jn m w ∈ F' := by simpa using e3
        refine k2 _ ⟨F', X, _, _, rfl, C', fx, keep, fun m' hm' => ?_⟩
        rcases List.mem_append.mp hm' with hm' | hm'
        · exact hd m' hm'
        · rw [tI_inj (List.mem_singleton.mp hm')]; exact yin
    · obtain ⟨F', X, x5, x6, rfl, C', fx, keep, hd⟩ := p
      have fl' := C'.few hk hn
      refine k (F', W0 ++ X) _ (by simp; omega) ⟨_, _, _, rfl, C'.nd, C'.one, C'.g, C'.sub, C'.wl, fun f hf => ?_⟩
      rcases C'.cl f hf with z | z | z
      · exact .inl z
      · subst z
        exact .inr (.inr fun m hm => hd m (List.mem_map.mpr ⟨m, hm, rfl⟩))
      · exact .inr (.inr z)
  · have wn : W = [] := by
      cases W with
      | nil => rfl
      | cons => simp at e
    subst wn
    have G : Grp mk n F := ⟨C.nd, fun g => ⟨C.g g, fun hg => all_left (S := fun g => g ∈ F) C.one (fun f m hf hm => by
      rcases C.cl f hf with z | z | z
      · simp at z
      · exact z.elim
      · exact z m hm) hg⟩⟩
    have keys : (mkD F).map (·.1) = F := by simp [mkD, Function.comp_def]
    refine ⟨fun _ p hp => ?_, fun L hp hs => ?_⟩
    · obtain ⟨f, hf, rfl⟩ := List.mem_map.mp hp
      have := (gen_mv hk (C.g f hf)).len
      rintro rfl
      simp at this
      omega
    · rw [keys] at hp
      exact h L ⟨hp.nodup_iff.2 G.nd, fun g => hp.mem_iff.trans (G.mem g)⟩ hs
theorem v__law_makers : VM g__law_makers S__law_makers 2 3 := fun l ms ds Q _ h => by
  obtain ⟨n, rfl, n1, hn, hm, h⟩ := h
  unfold g__law_makers
  walk_at "dd"
  refine ⟨by decide, 4, rfl, by decide, by decide, hm, fun t ms1 t0 t1 hm1 => ?_⟩
  dsimp only
  refine ⟨⟨by omega, by omega, by omega, by omega⟩, ?_⟩
  refine wpFor_cps (fun done ρ => ∃ (ms : List D) (mk : List (List Int)) (a b : Option SV), ρ = [some (.ow (.par l (.lst ms))), some (.im (.int n)), some (.ow (.lst (mk.map tI))), a, b] ∧ Dc ms ∧ mk.length = done.length ∧ ∀ m, m ∈ mk → Mv n m) ⟨_, [], _, _, rfl, hm1, rfl, by simp⟩ (fun done d rest ρ K e p k => ?_) (fun ρ p => ?_)
  · obtain ⟨ms, mk, a, b, rfl, hm, ml, mv⟩ := p
    have dl := congrArg List.length e
    rw [rgD_len] at dl
    simp at dl
    walk_at "dd"
    refine ⟨n, rfl, by omega, hm, fun m ms2 hp hm2 => ?_⟩
    walk_at "dd"
    have fin : ∀ (ms : List D) (c : List Int), Mv n c → Dc ms → mk.length < 16777216 ∧ K [some (.ow (.par l (.lst ms))), some (.im (.int n)), some (.ow (.lst (mk.map tI ++ [tI c]))), some (.im d), some (.im (tI c))] := fun ms c hc hm => by
      refine ⟨by omega, ?_⟩
      rw [show mk.map tI ++ [tI c] = (mk ++ [c]).map tI from by simp]
      refine k _ ⟨ms, mk ++ [c], _, _, rfl, hm, by simp [ml], fun x hx => ?_⟩
      rcases List.mem_append.mp hx with hx | hx
      · exact mv x hx
      · rw [List.mem_singleton.mp hx]; exact hc
    refine ⟨⟨_, rfl⟩, by decide, shaped_lT, by decide +kernel, rfl, ?_⟩
    rw [eqv_nil]
    refine ite_ways (fun e => ?_) (fun e => fin ms2 m hp hm2)
    have mn : mk ≠ [] := by
      rintro rfl
      simp at e
    refine ⟨2, rfl, by decide, by decide, hm2, fun t2 ms3 t20 t21 hm3 => ?_⟩
    refine ⟨rfl, rfl, ?_⟩
    refine ite_ways (fun e => ?_) (fun e => fin ms3 m hp hm3)
    refine ⟨by decide, ms3, _, rfl, rfl, ?_⟩
    refine ⟨_, mk.map tI, rfl, rfl, by simpa using mn, by simp; omega, hm3, fun x ms4 hx hm4 => ?_⟩
    obtain ⟨y, hy, rfl⟩ := List.mem_map.mp hx
    refine ⟨nl_tI y, nl_dc hm4, 4, rfl, by decide, by decide, hm4, fun t3 ms5 t30 t31 hm5 => ?_⟩
    obtain ⟨t3, rfl⟩ : ∃ q : Nat, t3 = q := ⟨t3.toNat, by omega⟩
    refine ⟨n, y, t3, rfl, mv y hy, by omega, by omega, fin ms5 _ ?_ hm5⟩
    exact mv_map (fun x h0 h1 => it_rng (mv y hy) ⟨h0, h1⟩ t3) fun x z h0 h1 h2 h3 e => it_inj (mv y hy) ⟨h0, h1⟩ ⟨h2, h3⟩ e
  · obtain ⟨ms, mk, a, b, rfl, hm, ml, mv⟩ := p
    rw [rgD_len] at ml
    walk_at "dd"
    exact ⟨ms, rfl, h mk ms ⟨by omega, by omega, mv⟩ (by omega) hm⟩
end Dn.K01
set_option Elab.async false
set_option linter.all false
set_option maxRecDepth 100000
set_option autoImplicit false
set_option maxHeartbeats 4000000
namespace Dn.K01
open PySem L2 Evl PySem.Spec PyProof.Rows SrL
local macro_rules | `(tactic| walk_at "dd") => `(tactic| simp only [sSeq, sIf, sSet, sRet, sRetN, sNx, sEx, sAsg, sPar, dTOr, dTAnd, dTNot, dTst, dIsi, dVar, dC, dBin, dChain, dNeg, dI2, dAnd, dOr, dNot, dIfE, dCall, dCallF, aCons, aNil, dTup, lLst, dOfL, xIm, xOw, gNm, gTp, gsCons, gsNil, dYes, envD, dLen_tR, dLen_tI, dLen_tup, dLen_lst, seq_tR, seq_tI, seq_tup, seq_lst, dIs, dIsNot, dNe, dEq, dTupOf, dSl, oNone, oSome, iSq, iEn, iR1, iR2, sFor, lLc, sNever, dTRg, rg1, rg2, lRg, wipeD, isN,
  gTpL, dIxP, sSub, dApp, dPopAt, dExt, dCallM, dCallO, dBinO, dTupO, lOf, lOfO, sRetO, iOw, dVarF, lCat, lCall, dAbs, dMax2, dMin2, dInt, atO, setO, MO.getL, MO.putL, Option.isSome_some,
  dInK, dGetK, dGetD, dInD, dGet1, lKeys, lSort, dLenSet, dLenSetL, dLenSet2, sPar3, dRevT, sPutK, xDct, xDct1, sRetK, atK, keyD, sAugI, xDctT1, xDctOf, dInT, sPutT, lSortT2, lSortDT, dPop, dBinR, dKeep, dCallMO, sWh, atT, dCallO,
  kit_int, kit_bool, kit_tuple, kit_str, List.map_cons, List.map_nil, List.cons_append, List.nil_append, List.replicate, List.set_cons_zero, List.set_cons_succ, List.getElem?_cons_zero, List.getElem?_cons_succ, List.length_cons, List.length_nil, List.length_map, Nat.reduceAdd, Nat.reduceSub, Bool.not_true, Bool.not_false, Bool.false_eq_true, if_true, if_false, true_and, reduceCtorEq, Bool.true_eq_false, rgD_rgI, Option.some.injEq, exists_eq_left', and_true])
theorem wpLc_mapI {α : Type} {g : DG} {tt : DT} {te : DE} {vs : List Nat} {Q : List D → Env → Prop} (l : List α) (f h : α → D) (I : Env → Prop) {ρ0 : Env} (h0 : I ρ0) (hl : l.length < 16777216)
    (hs : ∀ x, x ∈ l → ∀ (ρ : Env) (K : D → Env → Prop), I ρ → (∀ ρ3, I (wipeD ρ3 vs) → K (h x) ρ3) → g (f x) (wipeD ρ vs) fun ρ1 => te ρ1 fun y ρ3 => K y ρ3)
    (hf : ∀ ρ1, tt ρ1 = fun K => K true ρ1) (he : ∀ ρ, I ρ → Q (l.map h) ρ) : wpLc g tt te vs Q (l.map f) [] ρ0 := by
  refine wpLc_cps (fun done acc ρ => ∃ l1 l2, l = l1 ++ l2 ∧ done = l1.map f ∧ acc = l1.map h ∧ I ρ) ⟨[], l, rfl, rfl, rfl, h0⟩ (fun done d rest acc ρ K e p k => ?_) (fun acc ρ p => ?_)
  · obtain ⟨l1, x, l2, rfl, rfl, rfl, rfl⟩ := map_split e
    obtain ⟨m1, m2, e1, e2, rfl, i⟩ := p
    have e3 : m1 = l1 := by
      have h1 := congrArg List.length e2
      simp at h1
      have h2 := congrArg (List.take m1.length) e1
      rw [List.take_left, h1.symm, List.take_left] at h2
      exact h2.symm
    subst e3
    refine ⟨by simp at hl ⊢; omega, ?_⟩
    simp only [hf, if_true]
    exact hs x (by simp) ρ _ i fun ρ3 i3 => k _ _ ⟨m1 ++ [x], l2, by simp, by simp, by simp, i3⟩
  · obtain ⟨m1, m2, rfl, e2, rfl, i⟩ := p
    have : m2 = [] := by
      have h1 := congrArg List.length e2
      simp at h1
      exact h1
    subst this
    simpa using he ρ i
theorem in_con {l : List Int} {a : Int} : ((l.map PyData.int).any fun z => PyData.eqv z (.int a)) = l.contains a := by
  induction l with
  | nil => rfl
  | cons x l ih =>
    rw [List.map_cons, List.any_cons, ih, List.contains_cons]
    by_cases e : x = a
    · subst e; simp [PyData.eqv]
    · have : (a == x) = false := by simp [Ne.symm e]
      rw [this]
      simp [PyData.eqv, e]
def okW : SV → Prop
  | .im d => NL d
  | .ow m => NS m
def okS (o : Option SV) : Prop := ∀ sv, o = some sv → okW sv
theorem okS_none : okS none := fun _ h => nomatch h
theorem okS_im {d : D} (h : NL d) : okS (some (.im d)) := fun sv e => by cases e; exact h
theorem okS_ints {l : List Int} : okS (some (.ow (.lst (l.map PyData.int)))) := fun sv e => by
  cases e
  intro d hd
  obtain ⟨x, _, rfl⟩ := List.mem_map.mp hd
  exact .int x
def AllS : Env → Prop
  | [] => True
  | o :: l => okS o ∧ AllS l
theorem alls_at : ∀ {l : Env}, AllS l → ∀ (j : Nat) (sv : SV), l[j]? = some (some sv) → okW sv
  | [], _, j, sv, e => by simp at e
  | o :: l, h, 0, sv, e => h.1 sv (by simpa using e)
  | o :: l, h, j + 1, sv, e => alls_at h.2 j sv (by simpa using e)
theorem nss_8 {a0 a1 a2 a3 a4 a5 a6 a7 : Option SV} (h : AllS [a0, a1, none, a3, a4, a5, a6, a7]) : NSs [a0, a1, a2, a3, a4, a5, a6, a7] 2 := fun j sv ne e => by
  have key : okW sv := by
   refine alls_at h j sv ?_
   match j, ne with
   | 0, _ => exact e
   | 1, _ => exact e
   | j + 3, _ => exact e
  cases sv <;> exact key
theorem if_true' {b : Bool} : (if true = true then !b else b) = !b := rfl
theorem nl_tR (C : List (List Int)) : NL (tR C) := .tup fun d hd => by
  obtain ⟨r, _, rfl⟩ := List.mem_map.mp hd
  exact nl_tI r
theorem sc_ints (l : List Int) : (l.map PyData.int).all isSc = true := by
  rw [List.all_eq_true]
  intro d hd
  obtain ⟨x, _, rfl⟩ := List.mem_map.mp hd
  rfl
theorem shaped_lI {l : List Int} : SeqAt.shaped (.list (l.map PyData.int)) = true := by
  have z : ∀ r : List Int, PyData.canLayAll0 (r.map PyData.int) = true ∧ PyData.depthAll (r.map PyData.int) ≤ 1 := by
    intro r
    induction r with
    | nil => exact ⟨rfl, by simp [PyData.depthAll]⟩
    | cons x r ih =>
      simp only [List.map_cons, PyData.canLayAll0, PyData.depthAll, PyData.depth, PyData.canLay0, Bool.true_and]
      exact ⟨ih.1, by omega⟩
  have := z l
  unfold SeqAt.shaped
  simp only [PyData.canLay0, PyData.depth, this.1, Bool.true_and]
  exact decide_eq_true (by omega)
/-- a lot that grows -/
structure Lt (mk : List (List Int)) (n : Nat) (a : Int) (O W : List Int) (S : Int → Prop) : Prop where
  nd : O.Nodup
  one : a ∈ O
  g : ∀ x, x ∈ O → ky mk n a x
  sub : ∀ x, x ∈ W → x ∈ O
  wl : W.length ≤ O.length
  cl : ∀ x, x ∈ O → x ∈ W ∨ S x ∨ ∀ m, m ∈ mk → im m x ∈ O
theorem Lt.few {mk : List (List Int)} {n : Nat} {a : Int} {O W : List Int} {S : Int → Prop} (h : Lt mk n a O W S) (hk : Mk n mk) (ha : 0 ≤ a ∧ a < n) : O.length ≤ n := by
  have := nodup_len h.nd (l' := rgI n) fun x hx => mem_rgI.mpr (ky_rng hk ha.1 ha.2 (h.g x hx))
  rwa [rgI_len] at this
theorem v__law_orbits : VD g__law_orbits S__law_orbits 2 6 := fun ds Q _ h => by
  obtain ⟨n, mk, rfl, hk, hn, h⟩ := h
  unfold g__law_orbits
  walk_at "dd"
  refine ⟨by decide, rgd (by omega), ?_⟩
  refine wpFor_cps (fun done ρ => ∃ (xs : List Int) (x3 x4 x5 x6 x7 : Option SV), done = xs.map PyData.int ∧ ρ = [some (.im (.int n)), some (.im (tR mk)), some (.ow (.lst ((xs.foldl (stO mk n) []).map tI))), x3, x4, x5, x6, x7] ∧ (xs.foldl (stO mk n) []).length ≤ done.length ∧ okS x5 ∧ okS x6 ∧ okS x7)
    ⟨[], _, _, _, _, _, rfl, rfl, by simp, okS_none, okS_none, okS_none⟩ (fun done d rest ρ K e p k => ?_) (fun ρ p => ?_)
  · obtain ⟨xs, x3, x4, x5, x6, x7, rfl, rfl, ll, k5, k6, k7⟩ := p
    have dl := congrArg List.length e
    simp [rgI_len] at dl
    have hdm : d ∈ (rgI n).map PyData.int := by rw [e]; simp
    obtain ⟨a, ha, rfl⟩ := List.mem_map.mp hdm
    have ra := mem_rgI.mp ha
    rw [List.length_map] at ll
    have exs : xs.map PyData.int ++ [PyData.int a] = (xs ++ [a]).map PyData.int := by simp
    generalize hacc : xs.foldl (stO mk n) [] = acc at ll
    have facc : (xs ++ [a]).foldl (stO mk n) [] = stO mk n acc a := by rw [List.foldl_append, hacc]; rfl
    walk_at "dd"
    refine ⟨acc.map tI, rfl, fun d hd => ?_, ?_⟩
    · obtain ⟨l, _, rfl⟩ := List.mem_map.mp hd
      exact nl_tI l
    refine wpLc_mapI acc tI (fun l => .bool (l.contains a)) (fun ρ => ∃ y, okS y ∧ ρ = [some (.im (.int n)), some (.im (tR mk)), some (.im (.list (acc.map tI))), some (.im (.int a)), y, x5, x6, x7]) ⟨_, okS_none, rfl⟩ (by omega) (fun l hl ρ K2 i k2 => ?_) (fun _ => rfl) (fun ρ i => ?_)
    · obtain ⟨y, _, rfl⟩ := i
      walk_at "dd"
      refine ⟨l.map PyData.int, rfl, rfl, sc_ints l, ?_⟩
      rw [in_con]
      exact k2 _ ⟨_, okS_none, rfl⟩
    · obtain ⟨y, kY, rfl⟩ := i
      try walk_at "dd"
      refine ⟨acc.map fun l => l.contains a, by rw [List.map_map]; rfl, ?_⟩
      dsimp only
      refine ⟨by decide, nss_8 ⟨okS_im (.int _), okS_im (nl_tR mk), okS_none, okS_im (.int a), kY, k5, k6, k7, trivial⟩, ?_⟩
      have anyE : (acc.map fun l => l.contains a).any id = acc.any fun l => l.contains a := by rw [List.any_map]; rfl
      rw [anyE]
      refine ite_ways (fun e1 => ?_) (fun e1 => ?_)
      · have na : (acc.any fun l => l.contains a) = false := by simpa using e1
        have fa : stO mk n acc a = acc ++ [reach mk n a] := if_neg (by rw [na]; simp)
        refine ⟨by decide, by decide, ?_⟩
        refine wpWh_lt (β := List Int × List Int) (fun b ρ => ∃ x6 x7, ρ = [some (.im (.int n)), some (.im (tR mk)), some (.ow (.lst (acc.map tI))), some (.im (.int a)), some (.ow (.lst (b.1.map PyData.int))), some (.ow (.lst (b.2.map PyData.int))), x6, x7] ∧ Lt mk n a b.1 b.2 (fun _ => False) ∧ okS x6 ∧ okS x7) (fun b => 2 * (n - b.1.length) + b.2.length) (fun b ρ K2 p k2 => ?_) (b := ([a], [a])) ⟨_, _, rfl, ⟨by simp, by simp, fun x hx => by rw [List.mem_singleton.mp hx]; exact ky_self hk ra.1 ra.2, by simp, by simp, by simp⟩, k6, k7⟩
        obtain ⟨O, W⟩ := b
        obtain ⟨x6, x7, rfl, C, k6, k7⟩ := p
        dsimp only at C k2 ⊢
        have fl := C.few hk ra
        walk_at "dd"
        refine ⟨⟨_, rfl⟩, by decide, shaped_lI, by decide +kernel, ?_⟩
        rw [eqv_nil]
        refine ⟨rfl, ite_ways (fun e2 => ?_) (fun e2 => ?_)⟩
        · have wn : W ≠ [] := by
            rintro rfl
            simp at e2
          obtain ⟨W0, w, rfl⟩ : ∃ W0 w, W = W0 ++ [w] := ⟨W.dropLast, W.getLast wn, (List.dropLast_concat_getLast wn).symm⟩
          refine ⟨W0.map PyData.int, .int w, by simp, ?_⟩
          have wO : w ∈ O := C.sub w (by simp)
          have wr := ky_rng hk ra.1 ra.2 (C.g w wO)
          refine wpFor_cps (fun done ρ => ∃ (O' Y : List Int) (x7 : Option SV), ρ = [some (.im (.int n)), some (.im (tR mk)), some (.ow (.lst (acc.map tI))), some (.im (.int a)), some (.ow (.lst (O'.map PyData.int))), some (.ow (.lst ((W0 ++ Y).map PyData.int))), some (.im (.int w)), x7] ∧ Lt mk n a O' (W0 ++ Y) (fun f => f = w) ∧ O'.length = O.length + Y.length ∧ (∀ f, f ∈ O → f ∈ O') ∧ (∀ m, tI m ∈ done → im m w ∈ O') ∧ okS x7) ⟨O, [], _, by rw [List.append_nil], ⟨C.nd, C.one, C.g, fun x hx => C.sub x (by simp at hx ⊢; exact .inl hx), by have := C.wl; simp at this ⊢; omega, fun f hf => ?_⟩, rfl, fun _ h => h, by simp, k7⟩ (fun done d rest2 ρ K3 e3 p k3 => ?_) (fun ρ p => ?_)
          · rcases C.cl f hf with z | z | z
            · rcases List.mem_append.mp z with z | z
              · exact .inl (by simpa using z)
              · exact .inr (.inl (List.mem_singleton.mp z))
            · exact z.elim
            · exact .inr (.inr z)
          · obtain ⟨O', Y, x7, rfl, C', fx, keep, hd, k7⟩ := p
            obtain ⟨m, hm, rfl⟩ : ∃ m, m ∈ mk ∧ tI m = d := List.mem_map.mp (by rw [e3]; simp)
            have fl' := C'.few hk ra
            have ml := hk.len hm
            walk_at "dd"
            refine ixI wr.1 (by rw [ml]; exact wr.2) ?_
            refine ⟨O'.map PyData.int, rfl, rfl, sc_ints O', rfl, ?_⟩
            dsimp only
            rw [in_con, if_true']
            refine ite_ways (fun e4 => ?_) (fun e4 => ?_)
            · have nin : im m w ∉ O' := by simpa [im] using e4
              refine ixI wr.1 (by rw [ml]; exact wr.2) ⟨by omega, ixI wr.1 (by rw [ml]; exact wr.2) ⟨by have := C'.wl; omega, ?_⟩⟩
              rw [show O'.map PyData.int ++ [PyData.int (m.getD w.toNat 0)] = (O' ++ [im m w]).map PyData.int from by simp [im], show (W0 ++ Y).map PyData.int ++ [PyData.int (m.getD w.toNat 0)] = (W0 ++ (Y ++ [im m w])).map PyData.int from by simp [im]]
              have wl := C'.wl
              refine k3 _ ⟨O' ++ [im m w], Y ++ [im m w], _, rfl, ⟨?_, by simp [C'.one], fun f hf => ?_, fun x hx => ?_, by simp at wl ⊢; omega, fun f hf => ?_⟩, by simp; omega, fun f hf => by simp [keep f hf], fun m' hm' => ?_, okS_im (nl_tI m)⟩
              · rw [List.nodup_append]
                refine ⟨C'.nd, by simp, fun x hx b hb e => nin ?_⟩
                rw [List.mem_singleton.mp hb] at e
                exact e ▸ hx
              · rcases List.mem_append.mp hf with hf | hf
                · exact C'.g f hf
                · rw [List.mem_singleton.mp hf]; exact ky_step hk ra.1 ra.2 (C.g w wO) hm
              · rw [← List.append_assoc] at hx
                rcases List.mem_append.mp hx with hx | hx
                · exact List.mem_append_left _ (C'.sub x hx)
                · exact List.mem_append_right _ hx
              · rw [← List.append_assoc]
                rcases List.mem_append.mp hf with hf | hf
                · rcases C'.cl f hf with z | z | z
                  · exact .inl (List.mem_append_left _ z)
                  · exact .inr (.inl z)
                  · exact .inr (.inr fun m' hm' => List.mem_append_left _ (z m' hm'))
                · exact .inl (List.mem_append_right _ hf)
              · rcases List.mem_append.mp hm' with hm' | hm'
                · exact List.mem_append_left _ (hd m' hm')
                · rw [tI_inj (List.mem_singleton.mp hm')]; simp
            · have yin : im m w ∈ O' := by simpa [im] using e4
              refine k3 _ ⟨O', Y, _, rfl, C', fx, keep, fun m' hm' => ?_, okS_im (nl_tI m)⟩
              rcases List.mem_append.mp hm' with hm' | hm'
              · exact hd m' hm'
              · rw [tI_inj (List.mem_singleton.mp hm')]; exact yin
          · obtain ⟨O', Y, x7, rfl, C', fx, keep, hd, k7⟩ := p
            have fl' := C'.few hk ra
            refine k2 (O', W0 ++ Y) _ (by simp; omega) ⟨_, _, rfl, ⟨C'.nd, C'.one, C'.g, C'.sub, C'.wl, fun f hf => ?_⟩, okS_im (.int _), k7⟩
            rcases C'.cl f hf with z | z | z
            · exact .inl z
            · subst z
              exact .inr (.inr fun m hm => hd m (List.mem_map.mpr ⟨m, hm, rfl⟩))
            · exact .inr (.inr z)
        · have wn : W = [] := by
            cases W with
            | nil => rfl
            | cons => simp at e2
          subst wn
          walk_at "dd"
          refine ⟨O, rfl, ⟨_, rfl⟩, fun ns hp hs => ⟨by omega, ?_⟩⟩
          have full : ∀ x, ky mk n a x → x ∈ O := fun x hx => ky_least hk ra.1 ra.2 (fun x => x ∈ O) C.one (fun x m hx hm => by
            rcases C.cl x hx with z | z | z
            · simp at z
            · exact z.elim
            · exact z m hm) hx
          have nsr : ns = reach mk n a := by
            refine pw_int_eq (perm_of_nodup (hp.nodup_iff.2 C.nd) ((nodup_rgI n).filter _) fun x => ?_) hs (reach_pw mk n a)
            rw [hp.mem_iff]
            exact ⟨fun w => mem_reach.2 ⟨ky_rng hk ra.1 ra.2 (C.g x w), C.g x w⟩, fun w => full x (mem_reach.1 w).2⟩
          rw [show acc.map tI ++ [PyData.tuple (ns.map PyData.int)] = (acc ++ [reach mk n a]).map tI from by simp [tI, nsr]]
          exact k _ ⟨xs ++ [a], _, _, some (.ow (.lst [])), _, _, exs, by rw [facc, fa], by rw [facc, fa]; simp; omega, okS_ints (l := []), k6, k7⟩
      · have ya : (acc.any fun l => l.contains a) = true := by simpa using e1
        have fa : stO mk n acc a = acc := if_pos ya
        exact k _ ⟨xs ++ [a], _, _, _, _, _, exs, by rw [facc, fa], by rw [facc, fa]; simp; omega, k5, k6, k7⟩
  · obtain ⟨xs, x3, x4, x5, x6, x7, ex, rfl, ll, _⟩ := p
    have exs : xs = rgI n := by
      have := congrArg (List.map intD) ex
      rw [intD_map, intD_map] at this
      exact this.symm
    subst exs
    try walk_at "dd"
    exact h
end Dn.K01
set_option Elab.async false
set_option linter.all false
set_option maxRecDepth 100000
set_option autoImplicit false
set_option maxHeartbeats 4000000
namespace Dn.K01
open PySem L2 Evl PySem.Spec PyProof.Rows SrL
local macro_rules | `(tactic| walk_at "dd") => `(tactic| simp only [sSeq, sIf, sSet, sRet, sRetN, sNx, sEx, sAsg, sPar, dTOr, dTAnd, dTNot, dTst, dIsi, dVar, dC, dBin, dChain, dNeg, dI2, dAnd, dOr, dNot, dIfE, dCall, dCallF, aCons, aNil, dTup, lLst, dOfL, xIm, xOw, gNm, gTp, gsCons, gsNil, dYes, envD, dLen_tR, dLen_tI, dLen_tup, dLen_lst, seq_tR, seq_tI, seq_tup, seq_lst, dIs, dIsNot, dNe, dEq, dTupOf, dSl, oNone, oSome, iSq, iEn, iR1, iR2, sFor, lLc, sNever, dTRg, rg1, rg2, lRg, wipeD, isN,
  gTpL, dIxP, sSub, dApp, dPopAt, dExt, dCallM, dCallO, dBinO, dTupO, lOf, lOfO, sRetO, iOw, dVarF, lCat, lCall, dAbs, dMax2, dMin2, dInt, atO, setO, MO.getL, MO.putL, Option.isSome_some,
  dInK, dGetK, dGetD, dInD, dGet1, lKeys, lSort, dLenSet, dLenSetL, dLenSet2, sPar3, dRevT, sPutK, xDct, xDct1, sRetK, atK, keyD, sAugI, xDctT1, xDctOf, dInT, sPutT, lSortT2, lSortDT, dPop, dBinR, dKeep, dCallMO, sWh, atT, dCallO,
  kit_int, kit_bool, kit_tuple, kit_str, List.map_cons, List.map_nil, List.cons_append, List.nil_append, List.replicate, List.set_cons_zero, List.set_cons_succ, List.getElem?_cons_zero, List.getElem?_cons_succ, List.length_cons, List.length_nil, List.length_map, Nat.reduceAdd, Nat.reduceSub, Bool.not_true, Bool.not_false, Bool.false_eq_true, if_true, if_false, true_and, reduceCtorEq, Bool.true_eq_false, rgD_rgI, Option.some.injEq, exists_eq_left', and_true])
theorem shaped_tR {C : List (List Int)} : SeqAt.shaped (tR C) = true := by
  have := shaped_lT (C := C)
  unfold SeqAt.shaped tR at *
  simp only [PyData.canLay0, PyData.depth] at this ⊢
  exact this
theorem eqv_lT (a b : List (List Int)) : PyData.eqv (.list (a.map tI)) (.list (b.map tI)) = decide (a = b) := by simp only [PyData.eqv, eqvAll_tI]
theorem gen_perm {mk mk' : List (List Int)} {n : Nat} (e : ∀ m, m ∈ mk ↔ m ∈ mk') {g : List Int} : gen mk n g ↔ gen mk' n g := ⟨fun ⟨w, h, e1⟩ => ⟨w, fun m hm => (e m).1 (h m hm), e1⟩, fun ⟨w, h, e1⟩ => ⟨w, fun m hm => (e m).2 (h m hm), e1⟩⟩
theorem eqv_int (i j : Int) : (PyData.int i).eqv (.int j) = decide (i = j) := by
  simp only [PyData.eqv]
  by_cases z : i = j <;> simp [z]
theorem sum_cast (l : List (List Int)) : (l.map fun x => (x.length : Int)).sum = ((l.map List.length).sum : Nat) := by
  induction l with
  | nil => rfl
  | cons a l ih => simp only [List.map_cons, List.sum_cons, ih]; omega
theorem cut24 {l : List D} : cutD l none (some 24) = l.take 24 := by
  unfold cutD HT.sIx
  simp only [Int.reduceLT, if_false, Int.reduceToNat, Nat.sub_zero, List.drop_zero]
  rw [Nat.min_def]
  split
  · rfl
  · rw [List.take_of_length_le (by omega), List.take_of_length_le (by omega)]
/-- the orbits of all products are those of the makers -/
theorem orb_grp {mk G : List (List Int)} {n : Nat} (hk : Mk n mk) (hG : Grp mk n G) (hk2 : Mk n G) : orbF G n = orbF mk n := by
  refine orbF_congr fun x x0 x1 => ?_
  unfold reach
  refine List.filter_congr fun y hy => ?_
  have gg : ∀ g, gen G n g ↔ gen mk n g := fun g => by
    constructor
    · intro h
      exact all_left (mk := G) (S := fun g => gen mk n g) gen_id (fun g m hg hm => gen_mul hk ((hG.mem m).1 hm) hg) h
    · intro h
      exact gen_one hk2 ((hG.mem g).2 h)
  have : kyB G n x y = true ↔ kyB mk n x y = true := by
    constructor
    · intro w
      obtain ⟨g, h1, rfl⟩ := ky_gen hk2 x0 x1 w
      exact gen_ky hk ((gg g).1 h1) x0 x1
    · intro w
      obtain ⟨g, h1, rfl⟩ := ky_gen hk x0 x1 w
      exact gen_ky hk2 ((gg g).2 h1) x0 x1
  cases a : kyB G n x y <;> cases b : kyB mk n x y <;> simp [a, b] at this ⊢
theorem v__law_right : VM g__law_right S__law_right 2 10 := fun l ms ds Q _ h => by
  obtain ⟨n, rfl, n1, hn, hm, h⟩ := h
  unfold g__law_right
  walk_at "dd"
  refine ⟨n, rfl, n1, hn, hm, fun mk ms1 hk mkl hm1 => ?_⟩
  walk_at "dd"
  refine ⟨n, mk, rfl, hk, hn, fun G hG sG => ?_⟩
  refine ⟨n, mk, rfl, hk, n1, hn, fun G' hG' sG' => ?_⟩
  obtain rfl : G' = G := pw_perm_eq (grp_perm hG' hG) sG' sG
  try walk_at "dd"
  have G7 : G'.length ≤ 720 := Nat.le_trans (grp_few hk hG) ((by decide : ∀ n, n ≤ 6 → ff n n ≤ 720) n hn)
  have mvG : ∀ g, g ∈ G' → Mv n g := fun g hg => hG.mv hk hg
  refine ite_ways (fun e => by simp [tR] at e) fun _ => ?_
  refine ⟨shaped_lT, shaped_lT, ?_⟩
  rw [eqv_lT, decide_eq_true rfl, if_neg (by simp)]
  refine ⟨_, mk.map tI, rfl, rfl, by simp; omega, hm1, fun ys ms2 hp hm2 => ?_⟩
  obtain ⟨mk', rfl, hp'⟩ := perm_map hp rfl
  have hk' : Mk n mk' := ⟨by rw [hp'.length_eq]; exact hk.few, hk.most, fun m hm => hk.move m (hp'.mem_iff.1 hm)⟩
  refine ⟨n, mk', rfl, hk', hn, fun G2 hG2 sG2 => ?_⟩
  obtain rfl : G2 = G' := pw_perm_eq (grp_perm (mk := mk) ⟨hG2.nd, fun g => (hG2.mem g).trans (gen_perm fun m => hp'.mem_iff)⟩ hG) sG2 sG
  refine ⟨shaped_tR, shaped_tR, ?_⟩
  rw [eqv_tR, decide_eq_true rfl, if_neg (by simp)]
  refine wpLc_mapL G2 tI (fun m => pairD (m, .bool true)) (by omega) rfl (fun m hm K hK => ?_) (fun _ => rfl) ?_
  · walk_at "dd"
    exact ⟨by decide, hK _ rfl⟩
  refine ⟨mkD G2, by simp [mkD, Function.comp_def], by simpa [mkD, Function.comp_def] using hG.nd, ⟨by decide, by decide, by decide, by decide⟩, ?_⟩
  refine wpFor_inv (fun ρ => ∃ ms x6 x7 x8, ρ = [some (.ow (.par l (.lst ms))), some (.im (.int n)), some (.im (tR mk)), some (.im (tR G2)), some (.im (.list (G2.map tI))), some (.ow (.dtu (mkD G2))), x6, x7, x8, none, none, none] ∧ Dc ms) ⟨_, _, _, _, rfl, hm2⟩ (fun d hd ρ K i k => ?_) (fun ρ i => ?_)
  · obtain ⟨ms, x6, x7, x8, rfl, hm⟩ := i
    have Gne : G2 ≠ [] := fun z => by
      have := (hG.mem (rgI n)).2 gen_id
      rw [z] at this; cases this
    walk_at "dd"
    refine ⟨_, G2.map tI, rfl, rfl, by simpa using Gne, by simp; omega, hm, fun x ms3 hx hm3 => ?_⟩
    obtain ⟨g, hg, rfl⟩ := List.mem_map.mp hx
    refine ⟨_, G2.map tI, rfl, rfl, by simpa using Gne, by simp; omega, hm3, fun x ms4 hx hm4 => ?_⟩
    obtain ⟨g', hg', rfl⟩ := List.mem_map.mp hx
    try walk_at "dd"
    refine ⟨n, g, g', rfl, mvG g hg, mvG g' hg', by omega, ?_⟩
    refine ⟨mkD G2, jn g g', rfl, rfl, ?_⟩
    rw [valT_mkD, decide_eq_true ((hG.mem _).2 (gen_mul hk ((hG.mem g).1 hg) ((hG.mem g').1 hg')))]
    rw [if_neg (by simp)]
    refine ⟨n, g, rfl, mvG g hg, by omega, ?_⟩
    refine ⟨mkD G2, inv g, rfl, rfl, ?_⟩
    rw [valT_mkD, decide_eq_true (hG.inv hk hg)]
    rw [if_neg (by simp)]
    exact k _ ⟨ms4, _, _, _, rfl, hm4⟩
  · obtain ⟨ms, x6, x7, x8, rfl, hm⟩ := i
    have ob := orb_ok hk
    have of := orb_few hk
    walk_at "dd"
    refine ⟨n, mk, rfl, hk, n, mk, rfl, hk, hn, ?_⟩
    refine ⟨shaped_tR, shaped_tR, ?_⟩
    rw [eqv_tR, decide_eq_true rfl, if_neg (by simp)]
    show S_orbits [PyData.int n, PyData.tuple (cutD (G2.map tI) none (some 24))] _
    rw [cut24, ← List.map_take]
    have hkT : Mk n (G2.take 24) := ⟨by rw [List.length_take]; omega, hk.most, fun g hg => mvG g (List.mem_of_mem_take hg)⟩
    refine ⟨n, _, rfl, hkT, ?_⟩
    refine ⟨shaped_tR, shaped_tR, ?_⟩
    rw [eqv_tR]
    refine ite_ways (fun e1 => ite_ways (fun e2 => ?_) fun e2 => ?_) fun e1 => ?_
    · have c : (G2.length : Int) ≤ 24 := by simpa using e2
      have e : List.take 24 G2 = G2 := List.take_of_length_le (by omega)
      rw [e] at hkT e1
      rw [← orb_grp hk hG hkT] at e1
      simp at e1
    all_goals
      refine ⟨_, rfl, ?_⟩
      refine wpFor_inv (fun ρ => ∃ x10 x11, ρ = [some (.ow (.par l (.lst ms))), some (.im (.int n)), some (.im (tR mk)), some (.im (tR G2)), some (.im (.list (G2.map tI))), some (.ow (.dtu (mkD G2))), x6, x7, x8, some (.im (tR (orbF mk n))), x10, x11]) ⟨_, _, rfl⟩ (fun d hd ρ K i k => ?_) (fun ρ i => ?_)
      · obtain ⟨x10, x11, rfl⟩ := i
        obtain ⟨lot, hl, rfl⟩ := List.mem_map.mp hd
        obtain ⟨x, hx, rfl⟩ := ob.each lot hl
        walk_at "dd"
        have rl : (reach mk n x).length ≤ 24 := by
          have a := List.length_filter_le (kyB mk n x) (rgI n)
          rw [rgI_len] at a
          have b := hk.most
          unfold reach
          omega
        obtain ⟨y, r, e⟩ : ∃ y r, reach mk n x = y :: r := by
          cases e : reach mk n x with
          | nil => have := mem_reach.2 ⟨hx, ky_self hk hx.1 hx.2⟩; rw [e] at this; cases this
          | cons y r => exact ⟨y, r, rfl⟩
        have ym : y ∈ reach mk n x := by rw [e]; simp
        have yr := (mem_reach.1 ym).1
        have st := orbit_stab hk hG yr.1 yr.2
        rw [reach_eq hk hx.1 hx.2 ym] at st
        have y0 : ∀ Q : D → Prop, Q (.int y) → dIx (tI (reach mk n x)) (.int 0) Q := fun Q q => ixI (by decide) (by rw [e]; simp) (by rw [e]; exact q)
        refine wpLc_filL G2 tI tI (fun g => decide (im g y = y)) (by omega) rfl (fun g hg K N hK hN => ?_) ?_
        · walk_at "dd"
          refine y0 _ ?_
          have gl := (mvG g hg).len
          refine ixI yr.1 (by rw [gl]; exact yr.2) ?_
          refine y0 _ ?_
          refine ⟨rfl, rfl, ?_⟩
          rw [eqv_int]
          refine ite_ways (fun e2 => ?_) fun e2 => ?_
          · exact hK (by simpa [im] using e2) _ rfl
          · exact hN (by simpa [im] using e2) _ rfl
        · walk_at "dd"
          have st2 : ((G2.filter fun g => decide (im g y = y)).length : Int) * ((reach mk n x).length : Int) = (G2.length : Int) := by exact_mod_cast st
          have fl := List.length_filter_le (fun g => decide (im g y = y)) G2
          refine ⟨.inl (.inl ⟨by omega, by omega⟩), rfl, rfl, ?_⟩
          rw [eqv_int, st2, decide_eq_true rfl, if_neg (by simp)]
          exact k _ ⟨_, _, rfl⟩
      · obtain ⟨x10, x11, rfl⟩ := i
        walk_at "dd"
        refine wpLc_mapL (orbF mk n) tI (fun l => .int l.length) (by omega) rfl (fun m hm K hK => ?_) (fun _ => rfl) ?_
        · walk_at "dd"
          exact hK _ rfl
        · walk_at "dd"
          refine ⟨(orbF mk n).map fun x => (x.length : Int), by rw [List.map_map]; rfl, rfl, rfl, ms, rfl, ?_⟩
          rw [sum_cast, orb_sum hk, eqv_int, decide_eq_true rfl]
          exact h ms hm
end Dn.K01
set_option Elab.async false
set_option linter.all false
set_option maxRecDepth 100000
set_option autoImplicit false
set_option maxHeartbeats 4000000
namespace Dn.K01
open PySem L2 Evl PySem.Spec PyProof.Rows SrL
local macro_rules | `(tactic| walk_at "dd") => `(tactic| simp only [sSeq, sIf, sSet, sRet, sRetN, sNx, sEx, sAsg, sPar, dTOr, dTAnd, dTNot, dTst, dIsi, dVar, dC, dBin, dChain, dNeg, dI2, dAnd, dOr, dNot, dIfE, dCall, dCallF, aCons, aNil, dTup, lLst, dOfL, xIm, xOw, gNm, gTp, gsCons, gsNil, dYes, envD, dLen_tR, dLen_tI, dLen_tup, dLen_lst, seq_tR, seq_tI, seq_tup, seq_lst, dIs, dIsNot, dNe, dEq, dTupOf, dSl, oNone, oSome, iSq, iEn, iR1, iR2, sFor, lLc, sNever, dTRg, rg1, rg2, lRg, wipeD, isN,
  gTpL, dIxP, sSub, dApp, dPopAt, dExt, dCallM, dCallO, dBinO, dTupO, lOf, lOfO, sRetO, iOw, dVarF, lCat, lCall, dAbs, dMax2, dMin2, dInt, atO, setO, MO.getL, MO.putL, Option.isSome_some,
  dInK, dGetK, dGetD, dInD, dGet1, lKeys, lSort, dLenSet, dLenSetL, dLenSet2, sPar3, dRevT, sPutK, xDct, xDct1, sRetK, atK, keyD, sAugI, xDctT1, xDctOf, dInT, sPutT, lSortT2, lSortDT, dPop, dBinR, dKeep, dCallMO, sWh, atT, dCallO,
  kit_int, kit_bool, kit_tuple, kit_str, List.map_cons, List.map_nil, List.cons_append, List.nil_append, List.replicate, List.set_cons_zero, List.set_cons_succ, List.getElem?_cons_zero, List.getElem?_cons_succ, List.length_cons, List.length_nil, List.length_map, Nat.reduceAdd, Nat.reduceSub, Bool.not_true, Bool.not_false, Bool.false_eq_true, if_true, if_false, true_and, reduceCtorEq, Bool.true_eq_false, rgD_rgI, Option.some.injEq, exists_eq_left', and_true])
theorem mem_rgD' {n : Int} {d : D} (h : d ∈ rgD 0 n) : ∃ k : Int, d = .int k ∧ 0 ≤ k ∧ k < n := by
  obtain ⟨k, e, h0, h1⟩ := mem_rgD h
  exact ⟨k, e, h0, h1⟩
theorem dLen_scr' {s : List Int} {Q : D → Prop} : dLen [scr s] Q = Q (.int s.length) := by show Q _ = _; simp
theorem rg_four (n : Int) : RgD 0 (if (if n < 4 then n else 4) > 1 then (if n < 4 then n else 4) else 1) := by
  refine ⟨by decide, by decide, ?_, ?_⟩ <;> · split <;> (try split) <;> omega
theorem gen_none {n : Nat} {g : List Int} (h : gen [] n g) : g = rgI n := by
  obtain ⟨w, hw, rfl⟩ := h
  cases w with
  | nil => rfl
  | cons a w => cases hw a (by simp)
theorem grp_none {n : Nat} {G : List (List Int)} (h : Grp [] n G) : G = [rgI n] := by
  have : G.Perm [rgI n] := (List.perm_ext_iff_of_nodup h.nd (by simp)).2 fun g => by
    rw [h.mem g, List.mem_singleton]
    exact ⟨gen_none, fun e => by rw [e]; exact gen_id⟩
  exact List.perm_singleton.1 this
theorem mk_none {n : Nat} (h : n ≤ 24) : Mk n [] := ⟨by simp, h, by simp⟩
theorem mk_six : Mk 6 [c6, s6] := ⟨by decide, by decide, fun m hm => by
  simp only [List.mem_cons, List.not_mem_nil, or_false] at hm
  rcases hm with rfl | rfl
  · exact (by decide : c6.Perm (rgI 6))
  · exact (by decide : s6.Perm (rgI 6))⟩
theorem v_law : VD g_law S_law 1 2 := fun ds Q _ h => by
  obtain ⟨s, rfl, hs, h⟩ := h
  unfold g_law
  walk_at "dd"
  rw [dLen_scr']
  dsimp only
  refine And.intro (rg_four _) ?_
  refine wpFor_inv (fun ρ => ∃ x1 x2, ρ = [some (.im (scr s)), x1, x2]) ⟨_, _, rfl⟩ (fun d hd ρ K i k => ?_) (fun ρ i => ?_)
  · obtain ⟨x1, x2, rfl⟩ := i
    obtain ⟨spot, rfl, s0, _⟩ := mem_rgD' hd
    walk_at "dd"
    refine ⟨s, spot, rfl, s0, fun ms hm => ?_⟩
    walk_at "dd"
    refine ⟨6, rfl, by decide, by decide, hm, fun r ms1 r0 r1 hm1 => ?_⟩
    try walk_at "dd"
    refine ⟨(1 + r).toNat, by simp; omega, by omega, by omega, hm1, fun ms2 hm2 => ?_⟩
    try walk_at "dd"
    refine ⟨4, rfl, by decide, by decide, hm2, fun r ms3 r0 r1 hm3 => ?_⟩
    try walk_at "dd"
    refine ⟨(1 + r).toNat, by simp; omega, by omega, by omega, hm3, fun ms4 hm4 => ?_⟩
    try walk_at "dd"
    exact k _ ⟨_, _, rfl⟩
  · obtain ⟨x1, x2, rfl⟩ := i
    try walk_at "dd"
    refine ⟨by decide, 0, [], rfl, mk_none (by decide), by decide, fun G hG _ => ?_⟩
    obtain rfl := grp_none hG
    refine ⟨by decide, 3, [], rfl, mk_none (by decide), by decide, fun G hG _ => ?_⟩
    obtain rfl := grp_none hG
    refine ⟨by decide, 0, [], rfl, mk_none (by decide), ?_⟩
    refine ⟨by decide, 2, [], rfl, mk_none (by decide), ?_⟩
    refine ⟨by decide, by decide, by decide, by decide, by decide, by decide, by decide, by decide, by decide, by decide, by decide +kernel, by decide +kernel, ?_⟩
    rw [if_neg (by decide +kernel)]
    refine ⟨by decide, by decide, by decide, 6, [c6, s6], rfl, mk_six, by decide, fun G hG _ => ?_⟩
    have l6 := six hG mk_six
    try walk_at "dd"
    rw [l6]
    exact ⟨rfl, rfl, h⟩
end Dn.K01
set_option Elab.async false
set_option linter.all false
set_option maxRecDepth 100000
set_option autoImplicit false
set_option maxHeartbeats 2000000
namespace He
open PySem PySem.Spec PyProof.Rows L2
/-- names that stand for a builtin of another name-/
def bfB (K : PySem.W.Frag) (q : Str × String) : Bool := match PySem.W.nsIn K mainGlobals q.1 with
  | some (some (.builtin n)) => decide (n = q.2)
  | _ => false
def obsB (bf : List (Str × String)) (fa : List Fa) (fn : List DefD) (K : PySem.W.Frag) : AlD := (bf.all (bfB K) && (obsD fa fn K).1, (obsD fa fn K).2)
def SaysB (bf : List (Str × String)) (fa : List Fa) (fn : List DefD) (K : PySem.W.Frag) : Prop := obsB bf fa fn K = valD fn
def obsBG (n : Nat) (bf : List (Str × String)) (fa : List Fa) (fn : List DefD) (g : Addr → Option Obj) : AlD := obsB bf fa fn (frG g (asD g n))
def hookB (n : Nat) (bf : List (Str × String)) (fa : List Fa) (fn : List DefD) : PySem.W.Hook where
  α := AlD
  obs := fun s => obsBG n bf fa fn s.heap.get?
  val := fun _ => valD fn
  says := fun _ h => ∃ K : PySem.W.Frag, K.In h ∧ SaysB bf fa fn K
  of := fun _ _ e => ⟨_, frG_in, e⟩
  keeps := fun _ _ _ ⟨K, hK, c⟩ k => ⟨K, PySem.W.Frag.In.keeps hK k, c⟩
theorem obsBG_eq {n : Nat} {bf : List (Str × String)} {fa : List Fa} {fn : List DefD} {g : Addr → Option Obj} {s : Shared} (h : ∀ a, g a = s.heap.get? a) : obsBG n bf fa fn g = (hookB n bf fa fn).obs s := by
  have e : g = s.heap.get? := funext h
  rw [e] <;> rfl
theorem SaysB.d {bf : List (Str × String)} {fa : List Fa} {fn : List DefD} {K : PySem.W.Frag} (c : SaysB bf fa fn K) : SaysD fa fn K := by
  have h1 := (ba (show (bf.all (bfB K) && (obsD fa fn K).1) = true from congrArg (fun z : AlD => z.1) c)).2
  have h0 : (obsB bf fa fn K).2 = (valD fn).2 := by
    rw [show obsB bf fa fn K = valD fn from c]
  have h2 : (obsD fa fn K).2 = (valD fn).2 := h0
  exact Prod.ext h1 h2
theorem SaysB.bf {bf : List (Str × String)} {fa : List Fa} {fn : List DefD} {K : PySem.W.Frag} (c : SaysB bf fa fn K) {h : Heap} {mg : Str → Option Value} (X : K.In h) (G : h.Ns mainGlobals mg) (i : Nat) {q : Str × String} (hi : bf[i]? = some q := by rfl) : mg q.1 = some (.builtin q.2) := by
  have h1 := (ba (show (bf.all (bfB K) && (obsD fa fn K).1) = true from congrArg (fun z : AlD => z.1) c)).1
  have h2 := List.all_eq_true.mp h1 q (List.mem_of_getElem? hi)
  unfold bfB at h2
  cases e : PySem.W.nsIn K mainGlobals q.1 with
  | none =>
    rw [e] at h2
    cases h2
  | some o =>
    rw [e] at h2
    cases o with
    | none => cases h2
    | some v =>
      cases v with
      | builtin n =>
        have e2 : n = q.2 := of_decide_eq_true h2
        subst e2
        exact PySem.W.mg_of X G e
      | _ => cases h2
end He
set_option Elab.async false
set_option linter.all false
set_option maxRecDepth 100000
set_option maxHeartbeats 0
namespace Hd
open PySem PySem.Spec PyProof.Rows L2
def top (i : Nat) : Stmt := PySem.Challenge.pw_truenames_k01_whole_closures_and_orbits.main.body.getD i (.Pass ⟨0, 0, 0, 0⟩)
abbrev st_is_integer : Stmt := top 7
abbrev st_is_within : Stmt := top 8
abbrev st_is_row : Stmt := top 9
abbrev st_check_within : Stmt := top 10
abbrev st_is_move : Stmt := top 14
abbrev st_is_move_of : Stmt := top 15
abbrev st_check_move : Stmt := top 16
abbrev st_check_move_of : Stmt := top 17
abbrev st_check_makers : Stmt := top 18
abbrev st_joined_moves : Stmt := top 19
abbrev st_undone_move : Stmt := top 20
abbrev st_joined : Stmt := top 21
abbrev st_undone : Stmt := top 22
abbrev st_closure : Stmt := top 23
abbrev st_closure_within : Stmt := top 24
abbrev st_orbits : Stmt := top 25
abbrev st__ways_from : Stmt := top 26
abbrev st__law_dice : Stmt := top 28
abbrev st__law_roll : Stmt := top 29
abbrev st__law_pick : Stmt := top 30
abbrev st__law_mixed : Stmt := top 31
abbrev st__law_joined : Stmt := top 32
abbrev st__law_drawn_move : Stmt := top 33
abbrev st__law_power : Stmt := top 34
abbrev st__law_closed_moves : Stmt := top 35
abbrev st__law_orbits : Stmt := top 36
abbrev st__law_makers : Stmt := top 37
abbrev st__law_right : Stmt := top 38
abbrev st_law : Stmt := top 39
def dd_is_integer : He.DefD := ⟨("is_integer", none), "is_integer", "is_integer", defArgs st_is_integer, defBody st_is_integer, defScope st_is_integer, [], []⟩
def dd_is_within : He.DefD := ⟨("is_within", none), "is_within", "is_within", defArgs st_is_within, defBody st_is_within, defScope st_is_within, [], []⟩
def dd_is_row : He.DefD := ⟨("is_row", none), "is_row", "is_row", defArgs st_is_row, defBody st_is_row, defScope st_is_row, [], []⟩
def dd_check_within : He.DefD := ⟨("check_within", none), "check_within", "check_within", defArgs st_check_within, defBody st_check_within, defScope st_check_within, [], []⟩
def dd_is_move : He.DefD := ⟨("is_move", none), "is_move", "is_move", defArgs st_is_move, defBody st_is_move, defScope st_is_move, [], []⟩
def dd_is_move_of : He.DefD := ⟨("is_move_of", none), "is_move_of", "is_move_of", defArgs st_is_move_of, defBody st_is_move_of, defScope st_is_move_of, [], []⟩
def dd_check_move : He.DefD := ⟨("check_move", none), "check_move", "check_move", defArgs st_check_move, defBody st_check_move, defScope st_check_move, [], []⟩
def dd_check_move_of : He.DefD := ⟨("check_move_of", none), "check_move_of", "check_move_of", defArgs st_check_move_of, defBody st_check_move_of, defScope st_check_move_of, [], []⟩
def dd_check_makers : He.DefD := ⟨("check_makers", none), "check_makers", "check_makers", defArgs st_check_makers, defBody st_check_makers, defScope st_check_makers, [], []⟩
def dd_joined_moves : He.DefD := ⟨("joined_moves", none), "joined_moves", "joined_moves", defArgs st_joined_moves, defBody st_joined_moves, defScope st_joined_moves, [], []⟩
def dd_undone_move : He.DefD := ⟨("undone_move", none), "undone_move", "undone_move", defArgs st_undone_move, defBody st_undone_move, defScope st_undone_move, [], []⟩
def dd_joined : He.DefD := ⟨("joined", none), "joined", "joined", defArgs st_joined, defBody st_joined, defScope st_joined, [], []⟩
def dd_undone : He.DefD := ⟨("undone", none), "undone", "undone", defArgs st_undone, defBody st_undone, defScope st_undone, [], []⟩
def dd_closure : He.DefD := ⟨("closure", none), "closure", "closure", defArgs st_closure, defBody st_closure, defScope st_closure, [], []⟩
def dd_closure_within : He.DefD := ⟨("closure_within", none), "closure_within", "closure_within", defArgs st_closure_within, defBody st_closure_within, defScope st_closure_within, [], []⟩
def dd_orbits : He.DefD := ⟨("orbits", none), "orbits", "orbits", defArgs st_orbits, defBody st_orbits, defScope st_orbits, [], []⟩
def dd__ways_from : He.DefD := ⟨("_ways_from", none), "_ways_from", "_ways_from", defArgs st__ways_from, defBody st__ways_from, defScope st__ways_from, [], []⟩
def dd__law_dice : He.DefD := ⟨("_law_dice", none), "_law_dice", "_law_dice", defArgs st__law_dice, defBody st__law_dice, defScope st__law_dice, [], []⟩
def dd__law_roll : He.DefD := ⟨("_law_roll", none), "_law_roll", "_law_roll", defArgs st__law_roll, defBody st__law_roll, defScope st__law_roll, [], []⟩
def dd__law_pick : He.DefD := ⟨("_law_pick", none), "_law_pick", "_law_pick", defArgs st__law_pick, defBody st__law_pick, defScope st__law_pick, [], []⟩
def dd__law_mixed : He.DefD := ⟨("_law_mixed", none), "_law_mixed", "_law_mixed", defArgs st__law_mixed, defBody st__law_mixed, defScope st__law_mixed, [], []⟩
def dd__law_joined : He.DefD := ⟨("_law_joined", none), "_law_joined", "_law_joined", defArgs st__law_joined, defBody st__law_joined, defScope st__law_joined, [], []⟩
def dd__law_drawn_move : He.DefD := ⟨("_law_drawn_move", none), "_law_drawn_move", "_law_drawn_move", defArgs st__law_drawn_move, defBody st__law_drawn_move, defScope st__law_drawn_move, [], []⟩
def dd__law_power : He.DefD := ⟨("_law_power", none), "_law_power", "_law_power", defArgs st__law_power, defBody st__law_power, defScope st__law_power, [], []⟩
def dd__law_closed_moves : He.DefD := ⟨("_law_closed_moves", none), "_law_closed_moves", "_law_closed_moves", defArgs st__law_closed_moves, defBody st__law_closed_moves, defScope st__law_closed_moves, [], []⟩
def dd__law_orbits : He.DefD := ⟨("_law_orbits", none), "_law_orbits", "_law_orbits", defArgs st__law_orbits, defBody st__law_orbits, defScope st__law_orbits, [], []⟩
def dd__law_makers : He.DefD := ⟨("_law_makers", none), "_law_makers", "_law_makers", defArgs st__law_makers, defBody st__law_makers, defScope st__law_makers, [], []⟩
def dd__law_right : He.DefD := ⟨("_law_right", none), "_law_right", "_law_right", defArgs st__law_right, defBody st__law_right, defScope st__law_right, [], []⟩
def dd_law : He.DefD := ⟨("law", none), "law", "law", defArgs st_law, defBody st_law, defScope st_law, [], []⟩
def fn : List He.DefD := [dd_is_integer, dd_is_within, dd_is_row, dd_check_within, dd_is_move, dd_is_move_of, dd_check_move, dd_check_move_of, dd_check_makers, dd_joined_moves, dd_undone_move, dd_joined, dd_undone, dd_closure, dd_closure_within, dd_orbits, dd__ways_from, dd__law_dice, dd__law_roll, dd__law_pick, dd__law_mixed, dd__law_joined, dd__law_drawn_move, dd__law_power, dd__law_closed_moves, dd__law_orbits, dd__law_makers, dd__law_right, dd_law]
def fa : List He.Fa := [.glo "is_integer", .glo "is_within", .glo "is_row", .glo "check_within", .glo "is_move", .glo "is_move_of", .glo "check_move", .glo "check_move_of", .glo "check_makers", .glo "joined_moves", .glo "undone_move", .glo "joined", .glo "undone", .glo "closure", .glo "closure_within", .glo "orbits", .glo "_ways_from", .glo "_law_dice", .glo "_law_roll", .glo "_law_pick", .glo "_law_mixed", .glo "_law_joined", .glo "_law_drawn_move", .glo "_law_power", .glo "_law_closed_moves", .glo "_law_orbits", .glo "_law_makers", .glo "_law_right", .glo "law", .free "len", .free "range", .free "tuple", .free "list", .free "isinstance", .free "int", .free "bool", .free "str", .free "abs", .free "max", .free "min", .free "all", .free "any", .free "sum", .free "sorted", .free "enumerate", .free "repr", .free "set", .free "dict", .free "zip", .int "TOO_LONG" 1000000000000000000000000000000000000000000000000000000000000, .int "MAX_MOVED" 24, .int "MAX_CLOSURE" 1000]
def lo0 : List PySem.Str := ["NamesError", "InvalidMove", "InvalidNumber", "TooMany", "TOO_LONG", "is_integer", "is_within", "is_row", "check_within", "MAX_MOVED", "MAX_CLOSURE", "is_move", "is_move_of", "check_move", "check_move_of", "check_makers", "joined_moves", "undone_move", "joined", "undone", "closure", "closure_within", "orbits", "_ways_from", "_law_dice", "_law_roll", "_law_pick", "_law_mixed", "_law_joined", "_law_drawn_move"]
def lo1 : List PySem.Str := ["_law_power", "_law_closed_moves", "_law_orbits", "_law_makers", "_law_right"]
def loose : List PySem.Str := lo0 ++ lo1
abbrev R : PySem.W.OpenRow := PySem.W.OpenLaw.row PySem.Challenge.rw_truenames_k01_whole_closures_and_orbits
def bf : List (PySem.Str × String) := []
abbrev hk : PySem.W.Hook := He.hookB 4 bf fa fn
def ob (s : PySem.W.SharedT) : He.AlD := He.obsBG 4 bf fa fn (HandSHeadRun.getT s)
theorem ob_eq (s : PySem.W.SharedT) : ob s = hk.obs s.abs := He.obsBG_eq (HandSHeadRun.getT_eq s)
theorem run (w : World) : HandSHeadRun.RunEq R (PySem.W.view R.prog [39]) hk ob 6000 loose w := by
  intro os
  kernel_rfl
end Hd
set_option Elab.async false
set_option linter.all false
set_option maxRecDepth 100000
set_option autoImplicit false
set_option maxHeartbeats 4000000
namespace Dn.K01
open PySem PySem.Spec PyProof.Rows L2 Evl
theorem start_law {K : PySem.W.Frag} {H : Hp} {a : Addr} {ns : List Int} (hl : ns.length ≤ 63) (hS : SqL K H a (ns.map V.int)) : spD K 1 S_law [.ref a] H (fun v _ => v = .bl true) fun _ _ _ => False := by
  refine ⟨rfl, fun _ => False, [scr ns], fun d => d = .bool true, fun _ h => h.elim, start_scr hS, ⟨ns, rfl, hl, rfl⟩, fun v d H' q _ r => ?_⟩
  subst q
  cases r
  rfl
theorem facts {P : Program} {w : World} {K : PySem.W.Frag} {h : Heap} {mg : Str → Option Value} {f : Addr} (X : K.In h) (G : h.Ns mainGlobals mg) (hfa : mg ("law" : Str) = some (.ref f)) (cb : He.SaysB Hd.bf Hd.fa Hd.fn K) :
    ∃ fd : FuncData, (∀ (s : Shared) (v : Value), BindsTo s fd ⟨[v], []⟩ [("_law_script", v)]) ∧ ∀ base : Heap, K.In base → base.Ns mainGlobals mg → FnOk P w K mg base L2.CX0 8 f fd ["_law_script"] (spD K 1 S_law) := by
  have c := cb.d
  have F_is_integer : Is K mg "is_integer" st_is_integer := by
    obtain ⟨fd, F⟩ := c.def_ 0 (d := Hd.dd_is_integer) rfl
    exact ⟨_, fd, F, He.glo_ok X G (c.fact 0 (f := .glo "is_integer") rfl)⟩
  have F_is_within : Is K mg "is_within" st_is_within := by
    obtain ⟨fd, F⟩ := c.def_ 1 (d := Hd.dd_is_within) rfl
    exact ⟨_, fd, F, He.glo_ok X G (c.fact 1 (f := .glo "is_within") rfl)⟩
  have F_is_row : Is K mg "is_row" st_is_row := by
    obtain ⟨fd, F⟩ := c.def_ 2 (d := Hd.dd_is_row) rfl
    exact ⟨_, fd, F, He.glo_ok X G (c.fact 2 (f := .glo "is_row") rfl)⟩
  have F_check_within : Is K mg "check_within" st_check_within := by
    obtain ⟨fd, F⟩ := c.def_ 3 (d := Hd.dd_check_within) rfl
    exact ⟨_, fd, F, He.glo_ok X G (c.fact 3 (f := .glo "check_within") rfl)⟩
  have F_is_move : Is K mg "is_move" st_is_move := by
    obtain ⟨fd, F⟩ := c.def_ 4 (d := Hd.dd_is_move) rfl
    exact ⟨_, fd, F, He.glo_ok X G (c.fact 4 (f := .glo "is_move") rfl)⟩
  have F_is_move_of : Is K mg "is_move_of" st_is_move_of := by
    obtain ⟨fd, F⟩ := c.def_ 5 (d := Hd.dd_is_move_of) rfl
    exact ⟨_, fd, F, He.glo_ok X G (c.fact 5 (f := .glo "is_move_of") rfl)⟩
  have F_check_move : Is K mg "check_move" st_check_move := by
    obtain ⟨fd, F⟩ := c.def_ 6 (d := Hd.dd_check_move) rfl
    exact ⟨_, fd, F, He.glo_ok X G (c.fact 6 (f := .glo "check_move") rfl)⟩
  have F_check_move_of : Is K mg "check_move_of" st_check_move_of := by
    obtain ⟨fd, F⟩ := c.def_ 7 (d := Hd.dd_check_move_of) rfl
    exact ⟨_, fd, F, He.glo_ok X G (c.fact 7 (f := .glo "check_move_of") rfl)⟩
  have F_check_makers : Is K mg "check_makers" st_check_makers := by
    obtain ⟨fd, F⟩ := c.def_ 8 (d := Hd.dd_check_makers) rfl
    exact ⟨_, fd, F, He.glo_ok X G (c.fact 8 (f := .glo "check_makers") rfl)⟩
  have F_joined_moves : Is K mg "joined_moves" st_joined_moves := by
    obtain ⟨fd, F⟩ := c.def_ 9 (d := Hd.dd_joined_moves) rfl
    exact ⟨_, fd, F, He.glo_ok X G (c.fact 9 (f := .glo "joined_moves") rfl)⟩
  have F_undone_move : Is K mg "undone_move" st_undone_move := by
    obtain ⟨fd, F⟩ := c.def_ 10 (d := Hd.dd_undone_move) rfl
    exact ⟨_, fd, F, He.glo_ok X G (c.fact 10 (f := .glo "undone_move") rfl)⟩
  have F_joined : Is K mg "joined" st_joined := by
    obtain ⟨fd, F⟩ := c.def_ 11 (d := Hd.dd_joined) rfl
    exact ⟨_, fd, F, He.glo_ok X G (c.fact 11 (f := .glo "joined") rfl)⟩
  have F_undone : Is K mg "undone" st_undone := by
    obtain ⟨fd, F⟩ := c.def_ 12 (d := Hd.dd_undone) rfl
    exact ⟨_, fd, F, He.glo_ok X G (c.fact 12 (f := .glo "undone") rfl)⟩
  have F_closure_within : Is K mg "closure_within" st_closure_within := by
    obtain ⟨fd, F⟩ := c.def_ 14 (d := Hd.dd_closure_within) rfl
    exact ⟨_, fd, F, He.glo_ok X G (c.fact 14 (f := .glo "closure_within") rfl)⟩
  have F__ways_from : Is K mg "_ways_from" st__ways_from := by
    obtain ⟨fd, F⟩ := c.def_ 16 (d := Hd.dd__ways_from) rfl
    exact ⟨_, fd, F, He.glo_ok X G (c.fact 16 (f := .glo "_ways_from") rfl)⟩
  have F__law_dice : Is K mg "_law_dice" st__law_dice := by
    obtain ⟨fd, F⟩ := c.def_ 17 (d := Hd.dd__law_dice) rfl
    exact ⟨_, fd, F, He.glo_ok X G (c.fact 17 (f := .glo "_law_dice") rfl)⟩
  have F__law_roll : Is K mg "_law_roll" st__law_roll := by
    obtain ⟨fd, F⟩ := c.def_ 18 (d := Hd.dd__law_roll) rfl
    exact ⟨_, fd, F, He.glo_ok X G (c.fact 18 (f := .glo "_law_roll") rfl)⟩
  have F__law_pick : Is K mg "_law_pick" st__law_pick := by
    obtain ⟨fd, F⟩ := c.def_ 19 (d := Hd.dd__law_pick) rfl
    exact ⟨_, fd, F, He.glo_ok X G (c.fact 19 (f := .glo "_law_pick") rfl)⟩
  have F__law_mixed : Is K mg "_law_mixed" st__law_mixed := by
    obtain ⟨fd, F⟩ := c.def_ 20 (d := Hd.dd__law_mixed) rfl
    exact ⟨_, fd, F, He.glo_ok X G (c.fact 20 (f := .glo "_law_mixed") rfl)⟩
  have F__law_joined : Is K mg "_law_joined" st__law_joined := by
    obtain ⟨fd, F⟩ := c.def_ 21 (d := Hd.dd__law_joined) rfl
    exact ⟨_, fd, F, He.glo_ok X G (c.fact 21 (f := .glo "_law_joined") rfl)⟩
  have F__law_drawn_move : Is K mg "_law_drawn_move" st__law_drawn_move := by
    obtain ⟨fd, F⟩ := c.def_ 22 (d := Hd.dd__law_drawn_move) rfl
    exact ⟨_, fd, F, He.glo_ok X G (c.fact 22 (f := .glo "_law_drawn_move") rfl)⟩
  have F__law_power : Is K mg "_law_power" st__law_power := by
    obtain ⟨fd, F⟩ := c.def_ 23 (d := Hd.dd__law_power) rfl
    exact ⟨_, fd, F, He.glo_ok X G (c.fact 23 (f := .glo "_law_power") rfl)⟩
  have F__law_closed_moves : Is K mg "_law_closed_moves" st__law_closed_moves := by
    obtain ⟨fd, F⟩ := c.def_ 24 (d := Hd.dd__law_closed_moves) rfl
    exact ⟨_, fd, F, He.glo_ok X G (c.fact 24 (f := .glo "_law_closed_moves") rfl)⟩
  have F__law_orbits : Is K mg "_law_orbits" st__law_orbits := by
    obtain ⟨fd, F⟩ := c.def_ 25 (d := Hd.dd__law_orbits) rfl
    exact ⟨_, fd, F, He.glo_ok X G (c.fact 25 (f := .glo "_law_orbits") rfl)⟩
  have F__law_makers : Is K mg "_law_makers" st__law_makers := by
    obtain ⟨fd, F⟩ := c.def_ 26 (d := Hd.dd__law_makers) rfl
    exact ⟨_, fd, F, He.glo_ok X G (c.fact 26 (f := .glo "_law_makers") rfl)⟩
  have F_closure : Is K mg "closure" st_closure := by
    obtain ⟨fd, F⟩ := c.def_ 13 (d := Hd.dd_closure) rfl
    exact ⟨_, fd, F, He.glo_ok X G (c.fact 13 (f := .glo "closure") rfl)⟩
  have F_orbits : Is K mg "orbits" st_orbits := by
    obtain ⟨fd, F⟩ := c.def_ 15 (d := Hd.dd_orbits) rfl
    exact ⟨_, fd, F, He.glo_ok X G (c.fact 15 (f := .glo "orbits") rfl)⟩
  have F__law_right : Is K mg "_law_right" st__law_right := by
    obtain ⟨fd, F⟩ := c.def_ 27 (d := Hd.dd__law_right) rfl
    exact ⟨_, fd, F, He.glo_ok X G (c.fact 27 (f := .glo "_law_right") rfl)⟩
  have B : Bl mg := ⟨He.free_ok X G (c.fact 29 (f := .free "len") rfl), He.free_ok X G (c.fact 30 (f := .free "range") rfl), He.free_ok X G (c.fact 31 (f := .free "tuple") rfl), He.free_ok X G (c.fact 32 (f := .free "list") rfl), He.free_ok X G (c.fact 33 (f := .free "isinstance") rfl), He.free_ok X G (c.fact 34 (f := .free "int") rfl), He.free_ok X G (c.fact 35 (f := .free "bool") rfl), He.free_ok X G (c.fact 36 (f := .free "str") rfl), He.free_ok X G (c.fact 37 (f := .free "abs") rfl), He.free_ok X G (c.fact 38 (f := .free "max") rfl), He.free_ok X G (c.fact 39 (f := .free "min") rfl), He.free_ok X G (c.fact 40 (f := .free "all") rfl), He.free_ok X G (c.fact 41 (f := .free "any") rfl), He.free_ok X G (c.fact 42 (f := .free "sum") rfl), He.free_ok X G (c.fact 43 (f := .free "sorted") rfl), He.free_ok X G (c.fact 44 (f := .free "enumerate") rfl), He.free_ok X G (c.fact 45 (f := .free "repr") rfl), He.free_ok X G (c.fact 46 (f := .free "set") rfl), He.free_ok X G (c.fact 47 (f := .free "dict") rfl), He.free_ok X G (c.fact 48 (f := .free "zip") rfl)⟩
  obtain ⟨t_TOO_LONG, c_TOO_LONG⟩ := He.int_ok X G (c.fact 49 (f := .int "TOO_LONG" 1000000000000000000000000000000000000000000000000000000000000) rfl)
  obtain ⟨t_MAX_MOVED, c_MAX_MOVED⟩ := He.int_ok X G (c.fact 50 (f := .int "MAX_MOVED" 24) rfl)
  obtain ⟨t_MAX_CLOSURE, c_MAX_CLOSURE⟩ := He.int_ok X G (c.fact 51 (f := .int "MAX_CLOSURE" 1000) rfl)
  obtain ⟨fd, F⟩ := c.def_ 28 (d := Hd.dd_law) rfl
  have e := hfa.symm.trans (He.glo_ok X G (c.fact 28 (f := .glo "law") rfl))
  cases e
  have b := FunD.bindsA (ps := ["_law_script"]) F fun _ _ _ _ _ _ us hl => match us, hl with | [_], _ => rfl
  refine ⟨fd, fun s v => b s [v] rfl, fun base _ _ => ?_⟩
  have O_is_integer : Ok P w K mg base "is_integer" P_is_integer 1 (spD K 1 S_is_integer) := ok_D F_is_integer sc_is_integer bs_is_integer (j_is_integer B c_TOO_LONG) v_is_integer
  have O_is_within : Ok P w K mg base "is_within" P_is_within 2 (spD K 3 S_is_within) := ok_D F_is_within sc_is_within bs_is_within (j_is_within O_is_integer) v_is_within
  have O_is_row : Ok P w K mg base "is_row" P_is_row 1 (spD K 3 S_is_row) := ok_D F_is_row sc_is_row bs_is_row (j_is_row B) v_is_row
  have O_check_within : Ok P w K mg base "check_within" P_check_within 3 (spD K 3 S_check_within) := ok_D F_check_within sc_check_within bs_check_within (j_check_within O_is_within) v_check_within
  have O_is_move : Ok P w K mg base "is_move" P_is_move 2 (spD K 1 S_is_move) := ok_D F_is_move sc_is_move bs_is_move (j_is_move B c_MAX_MOVED O_is_row) v_is_move
  have O_is_move_of : Ok P w K mg base "is_move_of" P_is_move_of 3 (spD K 2 S_is_move_of) := ok_D F_is_move_of sc_is_move_of bs_is_move_of (j_is_move_of B O_is_move) v_is_move_of
  have O_check_move : Ok P w K mg base "check_move" P_check_move 3 (spD K 1 S_check_move) := ok_D F_check_move sc_check_move bs_check_move (j_check_move O_is_move) v_check_move
  have O_check_move_of : Ok P w K mg base "check_move_of" P_check_move_of 4 (spD K 2 S_check_move_of) := ok_D F_check_move_of sc_check_move_of bs_check_move_of (j_check_move_of O_is_move_of) v_check_move_of
  have O_check_makers : Ok P w K mg base "check_makers" P_check_makers 5 (spD K 2 S_check_makers) := ok_D F_check_makers sc_check_makers bs_check_makers (j_check_makers B c_MAX_MOVED O_check_within O_check_move_of) v_check_makers
  have O_joined_moves : Ok P w K mg base "joined_moves" P_joined_moves 1 (spD K 2 S_joined_moves) := ok_D F_joined_moves sc_joined_moves bs_joined_moves (j_joined_moves B) v_joined_moves
  have O_undone_move : Ok P w K mg base "undone_move" P_undone_move 1 (spD K 1 S_undone_move) := ok_D F_undone_move sc_undone_move bs_undone_move (j_undone_move B) v_undone_move
  have O_joined : Ok P w K mg base "joined" P_joined 5 (spD K 2 S_joined) := ok_D F_joined sc_joined bs_joined (j_joined B O_check_move O_check_move_of O_joined_moves) v_joined
  have O_undone : Ok P w K mg base "undone" P_undone 4 (spD K 1 S_undone) := ok_D F_undone sc_undone bs_undone (j_undone O_check_move O_undone_move) v_undone
  have O_closure_within : Ok P w K mg base "closure_within" P_closure_within 2 (spD K 3 S_closure_within) := ok_D F_closure_within sc_closure_within bs_closure_within (j_closure_within B O_joined_moves) v_closure_within
  have O__ways_from : Ok P w K mg base "_ways_from" P__ways_from 1 (spD K 2 S__ways_from) := ok_D F__ways_from sc__ways_from bs__ways_from (j__ways_from B) v__ways_from
  have O__law_dice : Ok P w K mg base "_law_dice" P__law_dice 1 (spL K 2 S__law_dice) := ok_L F__law_dice sc__law_dice bs__law_dice (j__law_dice B) v__law_dice
  have O__law_roll : Ok P w K mg base "_law_roll" P__law_roll 1 (spM K 2 S__law_roll) := ok_M F__law_roll sc__law_roll bs__law_roll (j__law_roll B) v__law_roll
  have O__law_pick : Ok P w K mg base "_law_pick" P__law_pick 2 (spM K 2 S__law_pick) := ok_M F__law_pick sc__law_pick bs__law_pick (j__law_pick B O__law_roll) v__law_pick
  have O__law_mixed : Ok P w K mg base "_law_mixed" P__law_mixed 2 (spM K 2 S__law_mixed) := ok_M F__law_mixed sc__law_mixed bs__law_mixed (j__law_mixed B O__law_roll) v__law_mixed
  have O__law_joined : Ok P w K mg base "_law_joined" P__law_joined 1 (spD K 2 S__law_joined) := ok_D F__law_joined sc__law_joined bs__law_joined (j__law_joined B) v__law_joined
  have O__law_drawn_move : Ok P w K mg base "_law_drawn_move" P__law_drawn_move 3 (spM K 2 S__law_drawn_move) := ok_M F__law_drawn_move sc__law_drawn_move bs__law_drawn_move (j__law_drawn_move B O__law_mixed) v__law_drawn_move
  have O__law_power : Ok P w K mg base "_law_power" P__law_power 2 (spD K 2 S__law_power) := ok_D F__law_power sc__law_power bs__law_power (j__law_power B O__law_joined) v__law_power
  have O__law_closed_moves : Ok P w K mg base "_law_closed_moves" P__law_closed_moves 2 (spD K 2 S__law_closed_moves) := ok_D F__law_closed_moves sc__law_closed_moves bs__law_closed_moves (j__law_closed_moves B O__law_joined) v__law_closed_moves
  have O__law_orbits : Ok P w K mg base "_law_orbits" P__law_orbits 1 (spD K 2 S__law_orbits) := ok_D F__law_orbits sc__law_orbits bs__law_orbits (j__law_orbits B) v__law_orbits
  have O__law_makers : Ok P w K mg base "_law_makers" P__law_makers 4 (spM K 2 S__law_makers) := ok_M F__law_makers sc__law_makers bs__law_makers (j__law_makers B O__law_roll O__law_drawn_move O__law_power O__law_pick) v__law_makers
  have O_closure : Ok P w K mg base "closure" P_closure 6 (spD K 2 S_closure) := ok_D F_closure sc_closure bs_closure (j_closure c_MAX_CLOSURE O_check_makers O_closure_within) v_closure
  have O_orbits : Ok P w K mg base "orbits" P_orbits 6 (spD K 2 S_orbits) := ok_D F_orbits sc_orbits bs_orbits (j_orbits B O_check_makers O__ways_from) v_orbits
  have O__law_right : Ok P w K mg base "_law_right" P__law_right 7 (spM K 2 S__law_right) := ok_M F__law_right sc__law_right bs__law_right (j__law_right B O__law_makers O_closure O__law_closed_moves O__law_mixed O__law_pick O_joined O_undone O_orbits O__law_orbits) v__law_right
  exact fn_D F sc_law (fun cdv A outer s H E hr => j_law B O__law_dice O__law_right O__law_roll O_orbits O_closure _ cdv A outer s H E hr) v_law
end Dn.K01
open PySem PySem.W PySem.Calls PyProof.Rows
theorem PySem.Challenge.cw_truenames_k01_whole_closures_and_orbits_holds : PySem.Challenge.rw_truenames_k01_whole_closures_and_orbits.Holds := by
  w_on; o_law
  refine HandSHeadRun.head_any (r := OpenLaw.row PySem.Challenge.rw_truenames_k01_whole_closures_and_orbits) (q := view (OpenLaw.row PySem.Challenge.rw_truenames_k01_whole_closures_and_orbits).prog [39]) (H := Hd.hk) (ob := Hd.ob) (M := 6000) (loose := Hd.loose) (d := HandSHeadRun.topDef (OpenLaw.row PySem.Challenge.rw_truenames_k01_whole_closures_and_orbits).prog 39) (kwd := []) Hd.ob_eq
    (by kernel_rfl) (fun s => by kernel_rfl) Hd.run (by kernel_rfl) (by kernel_rfl) (by kernel_rfl) (by rfl) (by first | assumption | decide +kernel) (by decide +kernel) ⟨rfl, rfl, rfl, rfl, rfl, by decide +kernel⟩ ?hw ?hc
  case hw => w_witness2
  case hc =>
    refine L2.walk_ofE (l := PySem.Challenge.rw_truenames_k01_whole_closures_and_orbits) (n := 63) (k := 8) (x := "_law_script") (CX := L2.CX0) rfl (by decide) (by kernel_rfl) ⟨rfl, by decide, by decide⟩ ?F (fun _ _ _ _ z => z)
    intro w mg fa h Y G hmg0
    obtain ⟨K, KX, c⟩ := Y
    have hmg : mg ("law" : PySem.Str) = some (.ref fa) := by
      have e : (HandSHeadRun.topDef (OpenLaw.row PySem.Challenge.rw_truenames_k01_whole_closures_and_orbits).prog 39).name = ("law" : PySem.Str) := by kernel_rfl
      rw [← e]
      exact hmg0
    obtain ⟨fd, hb, hF⟩ := Dn.K01.facts (P := (PySem.Challenge.rw_truenames_k01_whole_closures_and_orbits).prog) (w := w) KX G hmg c
    refine ⟨K, fd, Dn.spD K 1 Dn.K01.S_law, KX, hb, fun H a ns hl _ hS => ?_, hF⟩
    exact Dn.K01.start_law hl hS
