import PyProof.Rows.All
import Wide.All
import OpenK.AllK
import Wide.FinOn
import HandS.ForMost
import HandS.ForExc
import HandS.TupAny
import HandS.IsInst
import HandS.Flow
import KE.DataMinMax
import PyProof.DictMoreH
import HandS.SortKw
import HandS.SetKeys
import HandS.SetTxt0
import HandS.SetFor
import HandS.Strs
import HandS.More
import HandS.Style
import HandS.FStr
import HandS.Text
import HandS.StrMore
import HandS.RaiseMore
import PyProof.StrOps2
import HandS.Iter
import KE.KIntText
import HandS.ExcInit
import HandS.ExcField
import HandS.ExcIs
import KE.KExcIs
import KE.KCallOwn
import HandS.HotCalls
import HandS.Dict
import PyProof.Rows.StrCut
import KE.IntTextLaws
import PySem.Challenge.RW_suresnap_k42_errors_of_news
set_option Elab.async false
set_option linter.all false
set_option maxRecDepth 100000
set_option maxHeartbeats 4000000
-- part DL1
section
/-! A layer of plain data over the hand layer: values as data (D), mutable objects by address (MO, Mu), readings as wishes about data. -/
namespace DL
open PySem L2

/-- plain data; ptr: an object that changes, by its address; scr: a list of ints that is only read -/
inductive D where
  | non | bl (b : Bool) | int (i : Int) | str (s : Str) | tup (ds : List D) | lst (ds : List D) | ptr (a : Addr) | scr (ns : List Int) | ty (n : String) | exn (a dd : Addr) (p : Int) (m : Str)
/-- an object that changes: a list, an instance, a dict with tuple keys, a dict, a drawer of numbers -/
inductive MO where
  | lst (ds : List D) | ins (C : Addr) (fs : List (Str × D)) | dT (kvs : List (List Key × D)) | dK (kvs : List (Key × D)) | draw
abbrev Mu := Addr → Option MO
abbrev Env := List (Option D)
def Mu.put (μ : Mu) (a : Addr) (o : MO) : Mu := fun b => if b = a then some o else μ b
def Mu.del (μ : Mu) (a : Addr) : Mu := fun b => if b = a then none else μ b
theorem Mu.put_same {μ : Mu} {a : Addr} {o : MO} : μ.put a o a = some o := by unfold Mu.put; rw [if_pos rfl]
theorem Mu.put_ne {μ : Mu} {a b : Addr} {o : MO} (h : b ≠ a) : μ.put a o b = μ b := by unfold Mu.put; rw [if_neg h]
theorem Mu.put_put {μ : Mu} {a : Addr} {o u : MO} : (μ.put a o).put a u = μ.put a u := by funext b; unfold Mu.put; split <;> rfl
theorem Mu.put_del {μ : Mu} {a : Addr} {o : MO} (h : μ a = none) : (μ.put a o).del a = μ := by
  funext b; unfold Mu.put Mu.del; by_cases e : b = a
  · subst e; simp [h]
  · simp [e]
theorem Mu.ne_of {μ : Mu} {a b : Addr} {o : MO} (h : μ a = some o) (h' : μ b = none) : a ≠ b := by intro e; subst e; rw [h] at h'; cases h'

/-- the heap without what changes -/
def hide (H : Hp) (μ : Mu) : Hp := fun a => match μ a with | some _ => none | none => H a
theorem hide_some {H : Hp} {μ : Mu} {a : Addr} {o : HO} : hide H μ a = some o ↔ μ a = none ∧ H a = some o := by
  unfold hide; cases h : μ a <;> simp
theorem hide_in {H : Hp} {μ : Mu} {a : Addr} {o : HO} (h : hide H μ a = some o) : H a = some o := (hide_some.mp h).2

/-- a text as the model lays it -/
def SOk (x : Str) : Prop := x.length ≤ sizeLine ∧ PyData.strOk x = true
instance (x : Str) : Decidable (SOk x) := by unfold SOk; infer_instance
mutual
inductive Rp (K : PySem.W.Frag) (G : Hp) : V → D → Prop
  | non : Rp K G .non .non
  | bl (b : Bool) : Rp K G (.bl b) (.bl b)
  | int (i : Int) : Rp K G (.int i) (.int i)
  | str (x : Str) : SOk x → Rp K G (.str x) (.str x)
  | tup {a : Addr} {xs : List V} {ds : List D} : G a = some (.tup xs) → RpAll K G xs ds → ds.length ≤ sizeLine → Rp K G (.ref a) (.tup ds)
  | lst {a : Addr} {xs : List V} {ds : List D} : G a = some (.lst xs) → RpAll K G xs ds → ds.length ≤ sizeLine → Rp K G (.ref a) (.lst ds)
  | ptr (a : Addr) : Rp K G (.ref a) (.ptr a)
  | scr {a : Addr} {ns : List Int} : SqL K G a (ns.map V.int) → Rp K G (.ref a) (.scr ns)
  | ty (n : String) : Rp K G (.ty n) (.ty n)
  | exn {a dd : Addr} {p : Int} {m : Str} : G dd = some (.xd [(("message" : Str), V.str m), (("place" : Str), V.int p)]) → SOk m → Rp K G (.ref a) (.exn a dd p m)
inductive RpAll (K : PySem.W.Frag) (G : Hp) : List V → List D → Prop
  | nil : RpAll K G [] []
  | cons {v : V} {vs : List V} {d : D} {ds : List D} : Rp K G v d → RpAll K G vs ds → RpAll K G (v :: vs) (d :: ds)
end
section
variable {K : PySem.W.Frag} {G G' : Hp}
mutual
theorem Rp.mono (e : Same G G') : ∀ {v : V} {d : D}, Rp K G v d → Rp K G' v d
  | _, _, .non => .non
  | _, _, .bl b => .bl b
  | _, _, .int i => .int i
  | _, _, .str x h => .str x h
  | _, _, .tup h r z => .tup (e _ _ h) (RpAll.mono e r) z
  | _, _, .lst h r z => .lst (e _ _ h) (RpAll.mono e r) z
  | _, _, .ptr a => .ptr a
  | _, _, .scr h => .scr (e.seq h)
  | _, _, .ty n => .ty n
  | _, _, .exn h z => .exn (e _ _ h) z
theorem RpAll.mono (e : Same G G') : ∀ {vs : List V} {ds : List D}, RpAll K G vs ds → RpAll K G' vs ds
  | _, _, .nil => .nil
  | _, _, .cons r t => .cons (Rp.mono e r) (RpAll.mono e t)
end
theorem RpAll.length : ∀ {vs : List V} {ds : List D}, RpAll K G vs ds → vs.length = ds.length
  | _, _, .nil => rfl
  | _, _, .cons _ t => by simp [RpAll.length t]
theorem RpAll.get : ∀ {vs : List V} {ds : List D} {i : Nat} {d : D}, RpAll K G vs ds → ds[i]? = some d → ∃ v, vs[i]? = some v ∧ Rp K G v d
  | _, _, _, _, .nil, e => by simp at e
  | _, _, 0, _, .cons r _, e => by simp at e; subst e; exact ⟨_, rfl, r⟩
  | _, _, i + 1, _, .cons _ t, e => by
    obtain ⟨v, h1, h2⟩ := RpAll.get (i := i) t (by simpa using e)
    exact ⟨v, by simpa using h1, h2⟩
theorem RpAll.getV : ∀ {vs : List V} {ds : List D} {i : Nat} {v : V}, RpAll K G vs ds → vs[i]? = some v → ∃ d, ds[i]? = some d ∧ Rp K G v d
  | _, _, _, _, .nil, e => by simp at e
  | _, _, 0, _, .cons r _, e => by simp at e; subst e; exact ⟨_, rfl, r⟩
  | _, _, i + 1, _, .cons _ t, e => by
    obtain ⟨v, h1, h2⟩ := RpAll.getV (i := i) t (by simpa using e)
    exact ⟨v, by simpa using h1, h2⟩
theorem RpAll.append : ∀ {vs ws : List V} {ds es : List D}, RpAll K G vs ds → RpAll K G ws es → RpAll K G (vs ++ ws) (ds ++ es)
  | _, _, _, _, .nil, s => s
  | _, _, _, _, .cons r t, s => .cons r (RpAll.append t s)
theorem RpAll.take : ∀ {vs : List V} {ds : List D} (n : Nat), RpAll K G vs ds → RpAll K G (vs.take n) (ds.take n)
  | _, _, 0, _ => .nil
  | _, _, _ + 1, .nil => .nil
  | _, _, n + 1, .cons r t => .cons r (RpAll.take n t)
theorem RpAll.drop : ∀ {vs : List V} {ds : List D} (n : Nat), RpAll K G vs ds → RpAll K G (vs.drop n) (ds.drop n)
  | _, _, 0, r => r
  | _, _, _ + 1, .nil => .nil
  | _, _, n + 1, .cons _ t => RpAll.drop n t
theorem RpAll.set {x : V} {u : D} (r : Rp K G x u) : ∀ {vs : List V} {ds : List D} (i : Nat), RpAll K G vs ds → RpAll K G (vs.set i x) (ds.set i u)
  | _, _, _, .nil => .nil
  | _, _, 0, .cons _ t => .cons r t
  | _, _, i + 1, .cons q t => .cons q (RpAll.set r i t)
end

/-- what stands at an address that changes -/
def MOk (K : PySem.W.Frag) (G : Hp) (o : Option HO) : MO → Prop
  | .lst ds => ∃ xs, o = some (.lst xs) ∧ RpAll K G xs ds ∧ ds.length ≤ sizeLine
  | .ins C fs => ∃ dx gs, o = some (.ins C dx gs) ∧ Paired (fun (p : Str × V) (q : Str × D) => p.1 = q.1 ∧ Rp K G p.2 q.2) gs fs
  | .dT kvs => ∃ gs, o = some (.dT gs) ∧ Paired (fun (p : List Key × V) (q : List Key × D) => p.1 = q.1 ∧ Rp K G p.2 q.2) gs kvs
  | .dK kvs => ∃ gs, o = some (.dK gs) ∧ Paired (fun (p : Key × V) (q : Key × D) => p.1 = q.1 ∧ Rp K G p.2 q.2) gs kvs
  | .draw => ∃ (a : Addr) (ns : List Int) (i j k : Int), o = some (.lst [.ref a, .int i, .int j, .int k]) ∧ G a = some (.lst (ns.map V.int)) ∧ ns.length ≤ 63 ∧ 0 ≤ i ∧ 0 ≤ j ∧ 0 ≤ k ∧ k < 2147483647
theorem MOk.mono {K : PySem.W.Frag} {G G' : Hp} (e : Same G G') {o : Option HO} : ∀ {m : MO}, MOk K G o m → MOk K G' o m
  | .lst ds, ⟨xs, h1, h2, h3⟩ => ⟨xs, h1, h2.mono e, h3⟩
  | .ins C fs, ⟨dx, gs, h1, h2⟩ => ⟨dx, gs, h1, Paired.mapP h2 fun _ _ z => ⟨z.1, z.2.mono e⟩⟩
  | .dT fs, ⟨gs, h1, h2⟩ => ⟨gs, h1, Paired.mapP h2 fun _ _ z => ⟨z.1, z.2.mono e⟩⟩
  | .dK fs, ⟨gs, h1, h2⟩ => ⟨gs, h1, Paired.mapP h2 fun _ _ z => ⟨z.1, z.2.mono e⟩⟩
  | .draw, ⟨a, ns, i, j, k, h1, h2, h3⟩ => ⟨a, ns, i, j, k, h1, e _ _ h2, h3⟩
theorem MOk.there {K : PySem.W.Frag} {G : Hp} {o : Option HO} : ∀ {m : MO}, MOk K G o m → ∃ u, o = some u
  | .lst ds, ⟨xs, h1, _⟩ => ⟨_, h1⟩
  | .ins C fs, ⟨dx, gs, h1, _⟩ => ⟨_, h1⟩
  | .dT fs, ⟨gs, h1, _⟩ => ⟨_, h1⟩
  | .dK fs, ⟨gs, h1, _⟩ => ⟨_, h1⟩
  | .draw, ⟨a, ns, i, j, k, h1, _⟩ => ⟨_, h1⟩
def Wd (K : PySem.W.Frag) (H : Hp) (μ : Mu) : Prop := ∀ a o, μ a = some o → MOk K (hide H μ) (H a) o
theorem Wd.free {K : PySem.W.Frag} {H : Hp} {μ : Mu} (w : Wd K H μ) {a : Addr} (h : H a = none) : μ a = none := by
  cases q : μ a with
  | none => rfl
  | some o =>
    obtain ⟨u, e⟩ := (w a o q).there
    rw [h] at e; cases e
/-- what holds behind a step: what does not change stands as it stood -/
structure Nx (K : PySem.W.Frag) (H : Hp) (μ : Mu) (H' : Hp) (μ' : Mu) : Prop where
  ext : Same (hide H μ) (hide H' μ')
  wd : Wd K H' μ'
theorem Nx.trans {K : PySem.W.Frag} {H H1 H2 : Hp} {μ μ1 μ2 : Mu} (a : Nx K H μ H1 μ1) (b : Nx K H1 μ1 H2 μ2) : Nx K H μ H2 μ2 := ⟨a.ext.trans b.ext, b.wd⟩
theorem Nx.refl {K : PySem.W.Frag} {H : Hp} {μ : Mu} (w : Wd K H μ) : Nx K H μ H μ := ⟨Same.refl _, w⟩
def Renv (K : PySem.W.Frag) (G : Hp) (σ : L2.St) (ρ : Env) : Prop := σ.length = ρ.length ∧ ∀ (i : Nat) (d : D), ρ[i]? = some (some d) → ∃ v, σ[i]? = some (some v) ∧ Rp K G v d
structure StOk (K : PySem.W.Frag) (H : Hp) (μ : Mu) (σ : L2.St) (ρ : Env) : Prop where
  env : Renv K (hide H μ) σ ρ
  wd : Wd K H μ
theorem StOk.next {K : PySem.W.Frag} {H H' : Hp} {μ μ' : Mu} {σ : L2.St} {ρ : Env} (s : StOk K H μ σ ρ) (n : Nx K H μ H' μ') : StOk K H' μ' σ ρ :=
  ⟨⟨s.env.1, fun i d e => let ⟨v, h1, h2⟩ := s.env.2 i d e; ⟨v, h1, h2.mono n.ext⟩⟩, n.wd⟩
theorem Renv.set {K : PySem.W.Frag} {G : Hp} {σ : L2.St} {ρ : Env} {v : V} {d : D} (r : Renv K G σ ρ) (q : Rp K G v d) (i : Nat) : Renv K G (σ.set i (some v)) (ρ.set i (some d)) := by
  refine ⟨by rw [List.length_set, List.length_set]; exact r.1, fun j e h => ?_⟩
  by_cases hj : i = j
  · subst hj
    by_cases hl : i < ρ.length
    · rw [List.getElem?_set_self hl] at h
      cases h
      exact ⟨v, by rw [List.getElem?_set_self (by rw [r.1]; exact hl)], q⟩
    · rw [List.getElem?_eq_none (by rw [List.length_set]; omega)] at h; cases h
  · rw [List.getElem?_set_ne hj] at h ⊢
    exact r.2 j e h
theorem StOk.set {K : PySem.W.Frag} {H : Hp} {μ : Mu} {σ : L2.St} {ρ : Env} {v : V} {d : D} (s : StOk K H μ σ ρ) (q : Rp K (hide H μ) v d) (i : Nat) : StOk K H μ (σ.set i (some v)) (ρ.set i (some d)) := ⟨s.env.set q i, s.wd⟩

/-! ### new things -/
theorem hide_upd {H : Hp} {μ : Mu} {p : Addr} {o : HO} (h : μ p = none) : hide (upd H p o) μ = upd (hide H μ) p o := by
  funext b; unfold hide upd
  by_cases e : b = p
  · subst e; simp [h]
  · simp [e]
theorem hide_put {H : Hp} {μ : Mu} {p : Addr} {o : HO} {m : MO} (h : μ p = none → H p = none) : hide (upd H p o) (μ.put p m) = hide H μ := by
  funext b; unfold hide upd Mu.put
  by_cases e : b = p
  · subst e
    cases q : μ b with
    | none => simp [h q]
    | some u => simp
  · simp [e]
/-- a new thing that does not change -/
theorem Nx.new {K : PySem.W.Frag} {H : Hp} {μ : Mu} {p : Addr} {o : HO} (w : Wd K H μ) (hp : H p = none) : Nx K H μ (upd H p o) μ := by
  have hm := w.free hp
  have ex : Same (hide H μ) (hide (upd H p o) μ) := by
    rw [hide_upd hm]
    intro b u hb
    rw [upd_ne (ne_of_none (hide_in hb) hp)]
    exact hb
  refine ⟨ex, fun a m h => ?_⟩
  have ne : a ≠ p := Mu.ne_of h hm
  rw [upd_ne ne]
  exact (w a m h).mono ex
theorem new_at {H : Hp} {μ : Mu} {p : Addr} {o : HO} (hm : μ p = none) : hide (upd H p o) μ p = some o := by rw [hide_upd hm]; exact upd_same
/-- a new thing that changes, or a change of it -/
theorem Nx.put {K : PySem.W.Frag} {H : Hp} {μ : Mu} {p : Addr} {o : HO} {m : MO} (w : Wd K H μ) (hp : μ p = none → H p = none) (hk : MOk K (hide H μ) (some o) m) : Nx K H μ (upd H p o) (μ.put p m) := by
  have e := hide_put (o := o) (m := m) hp
  refine ⟨by rw [e]; exact Same.refl _, fun a u h => ?_⟩
  rw [e]
  by_cases ea : a = p
  · subst ea
    rw [Mu.put_same] at h; cases h
    rw [upd_same]
    exact hk
  · rw [Mu.put_ne ea] at h
    rw [upd_ne ea]
    exact w a u h
/-- a list that changes no more -/
theorem Nx.frz {K : PySem.W.Frag} {H : Hp} {μ : Mu} {p : Addr} {ds : List D} (w : Wd K H μ) (hp : μ p = some (.lst ds)) : Nx K H μ H (μ.del p) ∧ Rp K (hide H (μ.del p)) (.ref p) (.lst ds) := by
  have ex : Same (hide H μ) (hide H (μ.del p)) := by
    intro b u hb
    obtain ⟨h1, h2⟩ := hide_some.mp hb
    refine hide_some.mpr ⟨?_, h2⟩
    unfold Mu.del
    split
    · rfl
    · exact h1
  refine ⟨⟨ex, fun a u h => ?_⟩, ?_⟩
  · have h' : μ a = some u := by
      unfold Mu.del at h
      split at h
      · cases h
      · exact h
    exact (w a u h').mono ex
  · obtain ⟨xs, e, r, z⟩ := w p _ hp
    exact .lst (hide_some.mpr ⟨by unfold Mu.del; rw [if_pos rfl], e⟩) (r.mono ex) z

/-! ### readings as wishes about data -/
section
variable {α β γ : Type}
abbrev TF (β : Type) := Env → Mu → (β → Mu → Prop) → Prop
def Lift (K : PySem.W.Frag) (R : Hp → α → β → Prop) (F : TF β) : L2.St → Hp → (α → Hp → Prop) → Prop := fun σ H Q =>
  ∃ (ρ : Env) (μ : Mu) (Qd : β → Mu → Prop), StOk K H μ σ ρ ∧ F ρ μ Qd ∧ ∀ d μ' v H', Qd d μ' → Nx K H μ H' μ' → R (hide H' μ') v d → Q v H'
theorem Lift.go {K : PySem.W.Frag} {R : Hp → α → β → Prop} {F : TF β} {σ : L2.St} {ρ : Env} {H : Hp} {μ : Mu} {G : β → Mu → Prop} {Q : α → Hp → Prop} (s : StOk K H μ σ ρ) (hf : F ρ μ G)
    (k : ∀ d μ' v H', G d μ' → StOk K H' μ' σ ρ → Nx K H μ H' μ' → R (hide H' μ') v d → Q v H') : Lift K R F σ H Q :=
  ⟨ρ, μ, G, s, hf, fun d μ' v H' g n r => k d μ' v H' g (s.next n) n r⟩
abbrev tD (K : PySem.W.Frag) (F : TF D) : TE := Lift K (fun G v d => Rp K G v d) F
def RB : Hp → Bool → Bool → Prop := fun _ b c => b = c
abbrev tDT (K : PySem.W.Frag) (F : TF Bool) : TT := Lift K RB F
abbrev tDA (K : PySem.W.Frag) (F : TF (List D)) : TA := Lift K (fun G vs ds => RpAll K G vs ds) F
abbrev tDO (K : PySem.W.Frag) (F : TF (Option Int)) : TO := Lift K (fun _ b c => b = c) F
end
abbrev DE (X : Cx) (e : Expr) (F : TF D) : Prop := PE X e (tD X.K F)
abbrev DT (X : Cx) (e : Expr) (F : TF Bool) : Prop := PT X e (tDT X.K F)
abbrev DW (X : Cx) (e : Expr) (F : TF Bool) : Prop := PW X e (tDT X.K F)
abbrev DA (X : Cx) (es : List Expr) (F : TF (List D)) : Prop := PA X es (tDA X.K F)
abbrev DO (X : Cx) (e : Option Expr) (F : TF (Option Int)) : Prop := PO X e (tDO X.K F)
section
variable {X : Cx}
theorem weakE {e : Expr} {t t' : TE} (h : PE X e t) (w : ∀ σ H Q, t' σ H Q → t σ H Q) : PE X e t' := ⟨fun pins s σ H Q I q => h.run pins s σ H Q I (w σ H Q q)⟩
theorem weakT {e : Expr} {t t' : TT} (h : PT X e t) (w : ∀ σ H Q, t' σ H Q → t σ H Q) : PT X e t' := ⟨fun pins s σ H Q I q => h.run pins s σ H Q I (w σ H Q q)⟩
theorem weakW {e : Expr} {t t' : TT} (h : PW X e t) (w : ∀ σ H Q, t' σ H Q → t σ H Q) : PW X e t' := ⟨fun wh pins s σ H Q I q => h.run wh pins s σ H Q I (w σ H Q q)⟩
theorem weakA {e : List Expr} {t t' : TA} (h : PA X e t) (w : ∀ σ H Q, t' σ H Q → t σ H Q) : PA X e t' := ⟨fun pos pins s σ H Q I q => h.run pos pins s σ H Q I (w σ H Q q)⟩
theorem weakO {e : Option Expr} {t t' : TO} (h : PO X e t) (w : ∀ σ H Q, t' σ H Q → t σ H Q) : PO X e t' := ⟨fun pins s σ H Q I q => h.run pins s σ H Q I (w σ H Q q)⟩
theorem weakS {e : Stmt} {t t' : TS} (h : PS X e t) (w : ∀ D σ H, t' D σ H → t D σ H) : PS X e t' := ⟨fun pins s σ H D I q => h.run pins s σ H D I (w D σ H q)⟩
theorem weakSs {e : List Stmt} {t t' : TS} (h : PSs X e t) (w : ∀ D σ H, t' D σ H → t D σ H) : PSs X e t' := ⟨fun pins s σ H D I q => h.run pins s σ H D I (w D σ H q)⟩
theorem weakI {tg e : Expr} {t t' : TI} (h : PI X tg e t) (w : ∀ σ H Q, t' σ H Q → t σ H Q) : PI X tg e t' := ⟨fun pins s σ H Q I q => h.run pins s σ H Q I (w σ H Q q)⟩
end

/-! ### names, constants -/
def dVar (i : Nat) : TF D := fun ρ μ Q => ∃ d, ρ[i]? = some (some d) ∧ Q d μ
def dC (d : D) : TF D := fun _ μ Q => Q d μ
section
variable {X : Cx} {pos : Pos}
theorem dv (i : Nat) {x : Str} (hN : X.N[i]? = some x := by rfl) (hv : Vis X.env.scope x := by first | exact Or.inl rfl | exact Or.inr (Or.inl rfl) | exact Or.inr (Or.inr rfl)) (hd : (x == ("__debug__" : Str)) = false := by decide)
    (hcd : (x == ("__classdict__" : Str)) = false := by decide) : DE X (.Name x pos) (dVar i) := by
  refine weakE (pe_var hN hv hd hcd) fun σ H Q ⟨ρ, μ, Qd, s, hf, k⟩ => ?_
  obtain ⟨d, e, q⟩ := hf
  obtain ⟨v, h1, h2⟩ := s.env.2 i d e
  exact ⟨v, h1, k d μ v H q (Nx.refl s.wd) h2⟩
theorem dC_of {e : Expr} {v : V} {d : D} (h : PE X e (tC v)) (r : ∀ G, Rp X.K G v d) : DE X e (dC d) := weakE h fun σ H Q ⟨ρ, μ, Qd, s, hf, k⟩ => k d μ v H hf (Nx.refl s.wd) (r _)
theorem de_int {i j} : DE X (.Constant (.int i) j pos) (dC (.int i)) := dC_of pe_int fun _ => .int i
theorem de_bl {b j} : DE X (.Constant (.bool b) j pos) (dC (.bl b)) := dC_of pe_bl fun _ => .bl b
theorem de_non {j} : DE X (.Constant .none j pos) (dC .non) := dC_of pe_non fun _ => .non
theorem de_str {x : Str} {j} (hz : SOk x := by decide +kernel) : DE X (.Constant (.str x) j pos) (dC (.str x)) := dC_of pe_str fun _ => .str x hz
theorem de_globS {x y : Str} {t : Tok} (hg : Gl X x) (hm : X.mg x = some (.str y t)) (hz : SOk y := by decide +kernel) (hd : (x == ("__debug__" : Str)) = false := by decide) : DE X (.Name x pos) (dC (.str y)) := dC_of (v := .str y) (pe_glob hg hm ⟨t, rfl⟩ hd) fun _ => .str y hz
theorem de_globI {x : Str} {i : Int} {t : Tok} (hg : Gl X x) (hm : X.mg x = some (.int i t)) (hd : (x == ("__debug__" : Str)) = false := by decide) : DE X (.Name x pos) (dC (.int i)) := dC_of (v := .int i) (pe_glob hg hm ⟨t, rfl⟩ hd) fun _ => .int i
/-- a built-in class as a value -/
theorem de_ty {x : Str} {n : String} (hg : Gl X x) (hm : X.mg x = none) (hv : bootBuiltins x = some (.type n)) (hn : x ≠ "__name__" := by decide) (hd : (x == ("__debug__" : Str)) = false := by decide) : DE X (.Name x pos) (dC (.ty n)) :=
  dC_of (v := .ty n) (pe_bltn hg hm hv rfl hn hd) fun _ => .ty n
end

/-! ### operators -/
section
variable {X : Cx} {pos : Pos} {a b : Expr} {Fa Fb : TF D}
abbrev F2 := Mu → D → D → (D → Prop) → Prop
def dOp (f : F2) (Fa Fb : TF D) : TF D := fun ρ μ Q => Fa ρ μ fun x μ1 => Fb ρ μ1 fun y μ2 => f μ2 x y fun z => Q z μ2
def OpD (K : PySem.W.Frag) (r : R2) (f : F2) : Prop := ∀ (x y : D) (vx vy : V) (H : Hp) (μ : Mu) (P : D → Prop) (Q : VK), Wd K H μ → Rp K (hide H μ) vx x → Rp K (hide H μ) vy y → f μ x y P →
  (∀ z vz H', P z → Nx K H μ H' μ → Rp K (hide H' μ) vz z → Q vz H') → r vx vy H Q
theorem op_go {σ : L2.St} {H : Hp} {Q : VK} {f : F2} {r : R2} {K : PySem.W.Frag} (ho : OpD K r f) (h : tD K (dOp f Fa Fb) σ H Q) : tOp r (tD K Fa) (tD K Fb) σ H Q := by
  obtain ⟨ρ, μ, Qd, s, hf, k⟩ := h
  refine Lift.go s hf fun x μ1 vx H1 g1 s1 n1 r1 => Lift.go s1 g1 fun y μ2 vy H2 g2 s2 n2 r2 => ?_
  exact ho x y vx vy H2 μ2 _ _ s2.wd (r1.mono n2.ext) r2 g2 fun z vz H3 p n3 r3 => k z μ2 vz H3 p ((n1.trans n2).trans n3) r3
theorem de_op {op : Operator} {r : R2} {f : F2} (hr : OpR X (binaryOp op) r) (ho : OpD X.K r f) (ha : DE X a Fa) (hb : DE X b Fb) : DE X (.BinOp a op b pos) (dOp f Fa Fb) := weakE (pe_op hr ha hb) fun _ _ _ h => op_go ho h
theorem de_cmp {op : CmpOp} {r : R2} {f : F2} (hr : OpR X (compareOp op) r) (ho : OpD X.K r f) (ha : DE X a Fa) (hb : DE X b Fb) (hm : behindInMarks op b = false) : DE X (.Compare a [op] [b] pos) (dOp f Fa Fb) := weakE (pe_cmpR hr ha hb hm) fun _ _ _ h => op_go ho h
theorem de_ix {r : R2} {f : F2} (hr : IxR X r) (ho : OpD X.K r f) (ha : DE X a Fa) (hb : DE X b Fb) (hs : PlainIx b) : DE X (.Subscript a b pos) (dOp f Fa Fb) := weakE (pe_ix hr ha hb hs) fun _ _ _ h => op_go ho h
/-- a test of a comparison -/
def dTest (F : TF D) : TF Bool := fun ρ μ Q => F ρ μ fun d μ1 => ∃ b, d = .bl b ∧ Q b μ1
theorem dt_cmp {op : CmpOp} {r : R2} {f : F2} (hr : OpR X (compareOp op) r) (ho : OpD X.K r f) (ha : DE X a Fa) (hb : DE X b Fb) (hm : behindInMarks op b = false) : DT X (.Compare a [op] [b] pos) (dTest (dOp f Fa Fb)) :=
  weakT (pt_cmpR hr ha hb hm) fun σ H Q ⟨ρ, μ, Qd, s, hf, k⟩ => op_go ho ⟨ρ, μ, _, s, hf, fun d μ1 v H1 ⟨c, e, g⟩ n r => by
    subst e; cases r; exact ⟨c, rfl, k c μ1 c H1 g n rfl⟩⟩
end

/-! ### and, or, not, if -/
section
variable {X : Cx} {pos : Pos} {a b e : Expr} {rest : List Expr} {Fa Fb : TF D} {A B : TF Bool}
def dAnd (A B : TF Bool) : TF Bool := fun ρ μ Q => A ρ μ fun c μ1 => if c = true then B ρ μ1 Q else Q false μ1
def dOr (A B : TF Bool) : TF Bool := fun ρ μ Q => A ρ μ fun c μ1 => if c = true then Q true μ1 else B ρ μ1 Q
def dNot (A : TF Bool) : TF Bool := fun ρ μ Q => A ρ μ fun c μ1 => Q (!c) μ1
theorem dw_and1 (ha : DT X a A) : DW X (.BoolOp .And [a] pos) A := pw_and1 ha
theorem dw_or1 (ha : DT X a A) : DW X (.BoolOp .Or [a] pos) A := pw_or1 ha
theorem dw_and (ha : DT X a A) (hb : DW X (.BoolOp .And (b :: rest) pos) B) : DW X (.BoolOp .And (a :: b :: rest) pos) (dAnd A B) := by
  refine weakW (pw_and ha hb) fun σ H Q ⟨ρ, μ, Qd, s, hf, k⟩ => Lift.go (F := A) (R := RB) s hf fun c μ1 v H1 g s1 n1 e1 => ?_
  cases (show v = c from e1)
  cases c with
  | true => exact Lift.go s1 g fun d μ2 w H2 g2 s2 n2 e2 => k d μ2 w H2 g2 (n1.trans n2) e2
  | false => exact k false μ1 false H1 g n1 rfl
theorem dw_or (ha : DT X a A) (hb : DW X (.BoolOp .Or (b :: rest) pos) B) : DW X (.BoolOp .Or (a :: b :: rest) pos) (dOr A B) := by
  refine weakW (pw_or ha hb) fun σ H Q ⟨ρ, μ, Qd, s, hf, k⟩ => Lift.go (F := A) (R := RB) s hf fun c μ1 v H1 g s1 n1 e1 => ?_
  cases (show v = c from e1)
  cases c with
  | true => exact k true μ1 true H1 g n1 rfl
  | false => exact Lift.go s1 g fun d μ2 w H2 g2 s2 n2 e2 => k d μ2 w H2 g2 (n1.trans n2) e2
theorem dw_pt (h : DW X e A) : DT X e A := h.pt
theorem dt_not (ha : DT X a A) : DT X (.UnaryOp .Not a pos) (dNot A) :=
  weakT (pt_not ha) fun σ H Q ⟨ρ, μ, Qd, s, hf, k⟩ => Lift.go (F := A) (R := RB) s hf fun c μ1 v H1 g s1 n1 e1 => by cases (show v = c from e1); exact k _ μ1 _ H1 g n1 rfl
/-- an expression that gives a truth value, as a test -/
theorem dt_val {F : TF D} (h : DE X e F) (he : ∀ whole, isTrue e X.env whole = (do let v ← whole; standAt e.pos; holding [v] (truthy v)) := by intro _; rfl) : DT X e (dTest F) :=
  weakT (pt_val h he) fun σ H Q ⟨ρ, μ, Qd, s, hf, k⟩ => Lift.go s hf fun d μ1 v H1 ⟨c, e, g⟩ s1 n1 r => by subst e; cases r; exact ⟨c, rfl, k c μ1 c H1 g n1 rfl⟩
/-- a test of any value by its truth -/
def truD : D → Option Bool
  | .non => some false
  | .bl b => some b
  | .int i => some (i != 0)
  | .str s => some (((s.length : Nat) : Int) != 0)
  | .tup ds => some (!ds.isEmpty)
  | .lst ds => some (!ds.isEmpty)
  | _ => none
def dTru (F : TF D) : TF Bool := fun ρ μ Q => F ρ μ fun d μ1 => ∃ b, truD d = some b ∧ Q b μ1
theorem RpAll.empty {K : PySem.W.Frag} {G : Hp} {vs : List V} {ds : List D} (r : RpAll K G vs ds) : vs.isEmpty = ds.isEmpty := by cases r <;> rfl
theorem truV_of {K : PySem.W.Frag} {H : Hp} {μ : Mu} {v : V} {d : D} {b : Bool} (r : Rp K (hide H μ) v d) (h : truD d = some b) : TruV K v H b := by
  cases r with
  | non => cases h; rfl
  | bl c => cases h; rfl
  | int i => cases h; rfl
  | str x hz => cases h; exact ⟨hz.1, rfl⟩
  | tup ha hr hz => cases h; exact .inr (.inl ⟨_, SqT.of (hide_in ha), by rw [hr.empty]⟩)
  | lst ha hr hz => cases h; exact .inl ⟨_, SqL.of (hide_in ha), by rw [hr.empty]⟩
  | ptr a => cases h
  | scr _ => cases h
  | ty _ => cases h
  | exn _ _ => cases h
theorem dt_tru {F : TF D} (h : DE X e F) (he : ∀ whole, isTrue e X.env whole = (do let v ← whole; standAt e.pos; holding [v] (truthy v)) := by intro _; rfl) : DT X e (dTru F) :=
  weakT (pt_truth h he) fun σ H Q ⟨ρ, μ, Qd, s, hf, k⟩ => Lift.go s hf fun d μ1 v H1 ⟨c, e, g⟩ s1 n1 r => ⟨c, truV_of r e, k c μ1 c H1 g n1 rfl⟩
def dAndV (Fa Fb : TF D) : TF D := fun ρ μ Q => Fa ρ μ fun d μ1 => ∃ c, d = .bl c ∧ if c = true then Fb ρ μ1 Q else Q (.bl false) μ1
def dOrV (Fa Fb : TF D) : TF D := fun ρ μ Q => Fa ρ μ fun d μ1 => ∃ c, d = .bl c ∧ if c = true then Q (.bl true) μ1 else Fb ρ μ1 Q
def dNotV (Fa : TF D) : TF D := fun ρ μ Q => Fa ρ μ fun d μ1 => ∃ c, d = .bl c ∧ Q (.bl (!c)) μ1
theorem de_one {op} (h : DE X a Fa) : DE X (.BoolOp op [a] pos) Fa := pe_one h
theorem de_and (ha : DE X a Fa) (hb : DE X (.BoolOp .And (b :: rest) pos) Fb) : DE X (.BoolOp .And (a :: b :: rest) pos) (dAndV Fa Fb) := by
  refine weakE (pe_and ha hb) fun σ H Q ⟨ρ, μ, Qd, s, hf, k⟩ => Lift.go s hf fun d μ1 v H1 ⟨c, e, g⟩ s1 n1 r => ?_
  subst e; cases r
  refine ⟨c, rfl, ?_⟩
  cases c with
  | true => exact Lift.go s1 g fun d μ2 w H2 g2 s2 n2 r2 => k d μ2 w H2 g2 (n1.trans n2) r2
  | false => exact k _ μ1 _ H1 g n1 (.bl false)
theorem de_or (ha : DE X a Fa) (hb : DE X (.BoolOp .Or (b :: rest) pos) Fb) : DE X (.BoolOp .Or (a :: b :: rest) pos) (dOrV Fa Fb) := by
  refine weakE (pe_or ha hb) fun σ H Q ⟨ρ, μ, Qd, s, hf, k⟩ => Lift.go s hf fun d μ1 v H1 ⟨c, e, g⟩ s1 n1 r => ?_
  subst e; cases r
  refine ⟨c, rfl, ?_⟩
  cases c with
  | false => exact Lift.go s1 g fun d μ2 w H2 g2 s2 n2 r2 => k d μ2 w H2 g2 (n1.trans n2) r2
  | true => exact k _ μ1 _ H1 g n1 (.bl true)
theorem de_not (ha : DE X a Fa) : DE X (.UnaryOp .Not a pos) (dNotV Fa) := by
  refine weakE (pe_not ha) fun σ H Q ⟨ρ, μ, Qd, s, hf, k⟩ => Lift.go s hf fun d μ1 v H1 ⟨c, e, g⟩ s1 n1 r => ?_
  subst e; cases r
  exact ⟨c, rfl, k _ μ1 _ H1 g n1 (.bl _)⟩
def dIf (A : TF Bool) (Fa Fb : TF D) : TF D := fun ρ μ Q => A ρ μ fun c μ1 => if c = true then Fa ρ μ1 Q else Fb ρ μ1 Q
theorem de_if {c : Expr} (hc : DT X c A) (ha : DE X a Fa) (hb : DE X b Fb) : DE X (.IfExp c a b pos) (dIf A Fa Fb) := by
  refine weakE (pe_ifExp hc ha hb) fun σ H Q ⟨ρ, μ, Qd, s, hf, k⟩ => Lift.go (F := A) (R := RB) s hf fun c μ1 v H1 g s1 n1 e1 => ?_
  cases (show v = c from e1)
  cases c with
  | true => exact Lift.go s1 g fun d μ2 w H2 g2 s2 n2 r2 => k d μ2 w H2 g2 (n1.trans n2) r2
  | false => exact Lift.go s1 g fun d μ2 w H2 g2 s2 n2 r2 => k d μ2 w H2 g2 (n1.trans n2) r2
end

/-! ### arguments, displays -/
section
variable {X : Cx} {pos : Pos} {e : Expr} {es : List Expr} {F : TF D} {A : TF (List D)}
def aNil : TF (List D) := fun _ μ Q => Q [] μ
def aCons (F : TF D) (A : TF (List D)) : TF (List D) := fun ρ μ Q => F ρ μ fun d μ1 => A ρ μ1 fun ds μ2 => Q (d :: ds) μ2
theorem da_nil : DA X [] aNil := weakA pa_nil fun σ H Q ⟨ρ, μ, Qd, s, hf, k⟩ => k [] μ [] H hf (Nx.refl s.wd) .nil
theorem da_cons (h : DE X e F) (hr : DA X es A) (hs : starEach (e :: es) X.env = (false, eval e X.env) :: starEach es X.env := by rfl) : DA X (e :: es) (aCons F A) :=
  weakA (pa_cons h hr hs) fun σ H Q ⟨ρ, μ, Qd, s, hf, k⟩ => Lift.go s hf fun d μ1 v H1 g1 s1 n1 r1 => Lift.go s1 g1 fun ds μ2 vs H2 g2 s2 n2 r2 => k _ μ2 _ H2 g2 (n1.trans n2) (.cons (r1.mono n2.ext) r2)
def dTup (A : TF (List D)) : TF D := fun ρ μ Q => A ρ μ fun ds μ1 => ds.length ≤ sizeLine ∧ Q (.tup ds) μ1
def dLst (A : TF (List D)) : TF D := fun ρ μ Q => A ρ μ fun ds μ1 => ds.length ≤ sizeLine ∧ Q (.lst ds) μ1
/-- a list that will change -/
def dLstM (A : TF (List D)) : TF D := fun ρ μ Q => A ρ μ fun ds μ1 => ds.length ≤ sizeLine ∧ ∀ p, μ1 p = none → Q (.ptr p) (μ1.put p (.lst ds))
theorem de_tup {x1} (h : DA X es A) : DE X (.Tuple es x1 pos) (dTup A) :=
  weakE (pe_tup h) fun σ H Q ⟨ρ, μ, Qd, s, hf, k⟩ => Lift.go s hf fun ds μ1 vs H1 ⟨z, g⟩ s1 n1 r => ⟨by rw [r.length]; exact z, fun p hp => by
    have n2 : Nx X.K H1 μ1 (upd H1 p (.tup vs)) μ1 := Nx.new s1.wd hp
    exact k _ μ1 _ _ g (n1.trans n2) (.tup (new_at (s1.wd.free hp)) (r.mono n2.ext) z)⟩
theorem de_lst (h : DA X es A) : DE X (.List es pos) (dLst A) :=
  weakE (pe_lst h) fun σ H Q ⟨ρ, μ, Qd, s, hf, k⟩ => Lift.go s hf fun ds μ1 vs H1 ⟨z, g⟩ s1 n1 r => ⟨by rw [r.length]; exact z, fun p hp => by
    have n2 : Nx X.K H1 μ1 (upd H1 p (.lst vs)) μ1 := Nx.new s1.wd hp
    exact k _ μ1 _ _ g (n1.trans n2) (.lst (new_at (s1.wd.free hp)) (r.mono n2.ext) z)⟩
theorem de_lstM (h : DA X es A) : DE X (.List es pos) (dLstM A) :=
  weakE (pe_lst h) fun σ H Q ⟨ρ, μ, Qd, s, hf, k⟩ => Lift.go s hf fun ds μ1 vs H1 ⟨z, g⟩ s1 n1 r => ⟨by rw [r.length]; exact z, fun p hp => by
    have n2 : Nx X.K H1 μ1 (upd H1 p (.lst vs)) (μ1.put p (.lst ds)) := Nx.put s1.wd (fun _ => hp) ⟨vs, rfl, r, z⟩
    exact k _ _ _ _ (g p (s1.wd.free hp)) (n1.trans n2) (.ptr p)⟩
end

/-! ### calls -/
section
variable {X : Cx}
/-- a def's wish: of its arguments and the objects, what is wanted behind it -/
abbrev CT := List D → Mu → (D → Mu → Prop) → Prop
def spD (K : PySem.W.Frag) (C : CT) : Sp := fun vs H Q _ => ∃ (ds : List D) (μ : Mu) (Qd : D → Mu → Prop), RpAll K (hide H μ) vs ds ∧ Wd K H μ ∧ C ds μ Qd ∧ ∀ d μ' v H', Qd d μ' → Nx K H μ H' μ' → Rp K (hide H' μ') v d → Q v H'
def dCall (C : CT) (A : TF (List D)) : TF D := fun ρ μ Q => A ρ μ fun ds μ1 => C ds μ1 Q
theorem call_go {σ : L2.St} {H : Hp} {Q : VK} {K : PySem.W.Frag} {C : CT} {A : TF (List D)} {E : XK} (h : tD K (dCall C A) σ H Q) : tCall (spD K C) [] E (tDA K A) σ H Q := by
  obtain ⟨ρ, μ, Qd, s, hf, k⟩ := h
  refine Lift.go s hf fun ds μ1 vs H1 g s1 n1 r => ?_
  refine ⟨ds, μ1, Qd, by rw [List.append_nil]; exact r, s1.wd, g, fun d μ' v H' q n r => k d μ' v H' q (n1.trans n) r⟩
theorem de_call {k : Nat} {f : Addr} {fd : FuncData} {ps : List Str} {C : CT} {CX : CXT} {E : XK} {x : Str} {p pos : Pos} {e : Expr} {es : List Expr} {A : TF (List D)} (F : FnOk X.prog X.w X.K X.mg X.base CX k f fd ps (spD X.K C)) (hr : Room k X.A) (hg : Gl X x) (hm : X.mg x = some (.ref f)) (hk : PySem.W.keepIn X.K (.ref f) = true) (hb : Binds X.K fd ps []) (hx : Passes CX X E)
    (ha : DA X (e :: es) A) (hdb : (x == ("__debug__" : Str)) = false := by decide) (he : starEach (e :: es) X.env = (false, eval e X.env) :: starEach es X.env := by rfl) (hpl : (backTo pos (starEach es X.env)).any (·.1) = false := by rfl) :
    DE X (.Call (.Name x p) (e :: es) [] pos) (dCall C A) := weakE (pe_call F hr hg hm hk hb .nil hx ha hdb he hpl) fun _ _ _ h => call_go h
end

/-! ### statements -/
structure EndsD where
  nx : Env → Mu → Prop
  rt : D → Mu → Prop
  bk : Env → Mu → Prop := fun _ _ => False
  ct : Env → Mu → Prop := fun _ _ => False
structure Conn (K : PySem.W.Frag) (H : Hp) (μ : Mu) (E : EndsD) (D' : Ends) : Prop where
  nx : ∀ ρ' μ' σ' H', E.nx ρ' μ' → StOk K H' μ' σ' ρ' → Nx K H μ H' μ' → D'.nx σ' H'
  rt : ∀ d μ' v H', E.rt d μ' → Nx K H μ H' μ' → Rp K (hide H' μ') v d → D'.rt v H'
  bk : ∀ ρ' μ' σ' H', E.bk ρ' μ' → StOk K H' μ' σ' ρ' → Nx K H μ H' μ' → D'.bk σ' H'
  ct : ∀ ρ' μ' σ' H', E.ct ρ' μ' → StOk K H' μ' σ' ρ' → Nx K H μ H' μ' → D'.ct σ' H'
theorem Conn.after {K : PySem.W.Frag} {H H1 : Hp} {μ μ1 : Mu} {E : EndsD} {D' : Ends} (c : Conn K H μ E D') (n : Nx K H μ H1 μ1) : Conn K H1 μ1 E D' :=
  ⟨fun ρ' μ' σ' H' e s m => c.nx ρ' μ' σ' H' e s (n.trans m), fun d μ' v H' e m r => c.rt d μ' v H' e (n.trans m) r, fun ρ' μ' σ' H' e s m => c.bk ρ' μ' σ' H' e s (n.trans m), fun ρ' μ' σ' H' e s m => c.ct ρ' μ' σ' H' e s (n.trans m)⟩
abbrev TSD := EndsD → Env → Mu → Prop
def tDS (K : PySem.W.Frag) (G : TSD) : TS := fun D' σ H => ∃ (ρ : Env) (μ : Mu) (E : EndsD), StOk K H μ σ ρ ∧ G E ρ μ ∧ Conn K H μ E D'
abbrev DS (X : Cx) (st : Stmt) (G : TSD) : Prop := PS X st (tDS X.K G)
abbrev DSs (X : Cx) (st : List Stmt) (G : TSD) : Prop := PSs X st (tDS X.K G)
section
variable {X : Cx} {pos : Pos} {st : Stmt} {rest : List Stmt} {G1 G2 : TSD} {e : Expr} {F : TF D}
def sNext : TSD := fun E ρ μ => E.nx ρ μ
def sSeq (G1 G2 : TSD) : TSD := fun E ρ μ => G1 { E with nx := G2 E } ρ μ
theorem dss_nil : DSs X [] sNext := weakSs pss_nil fun D' σ H ⟨ρ, μ, E, s, g, c⟩ => c.nx ρ μ σ H g s (Nx.refl s.wd)
theorem dss_one (h : DS X st G1) : DSs X [st] G1 := pss_one h
theorem dss_cons (h1 : DS X st G1) (h2 : DSs X rest G2) : DSs X (st :: rest) (sSeq G1 G2) :=
  weakSs (pss_cons h1 h2) fun D' σ H ⟨ρ, μ, E, s, g, c⟩ => ⟨ρ, μ, { E with nx := G2 E }, s, g, ⟨fun ρ' μ' σ' H' g' s' n => ⟨ρ', μ', E, s', g', c.after n⟩, c.rt, c.bk, c.ct⟩⟩
theorem ds_pass : DS X (.Pass pos) sNext := weakS ps_pass fun D' σ H ⟨ρ, μ, E, s, g, c⟩ => c.nx ρ μ σ H g s (Nx.refl s.wd)
def sBreak : TSD := fun E ρ μ => E.bk ρ μ
def sCont : TSD := fun E ρ μ => E.ct ρ μ
theorem ds_break : DS X (.Break pos) sBreak := weakS ps_break fun D' σ H ⟨ρ, μ, E, s, g, c⟩ => c.bk ρ μ σ H g s (Nx.refl s.wd)
theorem ds_continue : DS X (.Continue pos) sCont := weakS ps_continue fun D' σ H ⟨ρ, μ, E, s, g, c⟩ => c.ct ρ μ σ H g s (Nx.refl s.wd)
def sNever : TSD := fun _ _ _ => False
theorem ds_never : DS X st sNever := weakS ps_never fun D' σ H ⟨ρ, μ, E, s, g, c⟩ => g
def sDrop (F : TF D) : TSD := fun E ρ μ => F ρ μ fun _ μ1 => E.nx ρ μ1
theorem ds_expr (h : DE X e F) (hs : swapsWith e none pos.line X.env = pure false := by rfl) : DS X (.Expr e pos) (sDrop F) :=
  weakS (ps_expr h hs) fun D' σ H ⟨ρ, μ, E, s, g, c⟩ => Lift.go s g fun d μ1 v H1 g1 s1 n1 r1 => c.nx ρ μ1 σ H1 g1 s1 n1
def sRet (F : TF D) : TSD := fun E ρ μ => F ρ μ E.rt
theorem ds_ret (h : DE X e F) : DS X (.Return (some e) pos) (sRet F) :=
  weakS (ps_ret h) fun D' σ H ⟨ρ, μ, E, s, g, c⟩ => Lift.go s g fun d μ1 v H1 g1 s1 n1 r1 => c.rt d μ1 v H1 g1 n1 r1
/-- a list that changed is handed back, and changes no more -/
def dFrz (F : TF D) : TF D := fun ρ μ Q => F ρ μ fun d μ1 => ∃ p ds, d = .ptr p ∧ μ1 p = some (.lst ds) ∧ Q (.lst ds) (μ1.del p)
theorem de_frz (h : DE X e F) : DE X e (dFrz F) :=
  weakE h fun σ H Q ⟨ρ, μ, Qd, s, hf, k⟩ => Lift.go s hf fun d μ1 v H1 ⟨p, ds, e, hp, g⟩ s1 n1 r1 => by
    subst e; cases r1
    obtain ⟨n2, r2⟩ := Nx.frz s1.wd hp
    exact k _ _ _ H1 g (n1.trans n2) r2
def sRetN : TSD := fun E _ μ => E.rt .non μ
theorem ds_retN : DS X (.Return none pos) sRetN := weakS ps_retN fun D' σ H ⟨ρ, μ, E, s, g, c⟩ => c.rt .non μ .non H g (Nx.refl s.wd) .non
def sIf (A : TF Bool) (G1 G2 : TSD) : TSD := fun E ρ μ => A ρ μ fun b μ1 => if b = true then G1 E ρ μ1 else G2 E ρ μ1
theorem ds_if {c : Expr} {a b : List Stmt} {A : TF Bool} (hc : DT X c A) (ha : DSs X a G1) (hb : DSs X b G2) : DS X (.If c a b pos) (sIf A G1 G2) :=
  weakS (ps_if hc ha hb) fun D' σ H ⟨ρ, μ, E, s, g, c⟩ => Lift.go (F := A) (R := RB) s g fun d μ1 v H1 g1 s1 n1 e1 => by
    cases (show v = d from e1)
    cases d with
    | true => exact ⟨ρ, μ1, E, s1, g1, c.after n1⟩
    | false => exact ⟨ρ, μ1, E, s1, g1, c.after n1⟩
def sSet (i : Nat) (F : TF D) : TSD := fun E ρ μ => F ρ μ fun d μ1 => E.nx (ρ.set i (some d)) μ1
theorem ds_set (i : Nat) {x : Str} {pos' : Pos} (hN : X.N.Nodup) (h : DE X e F) (hi : X.N[i]? = some x := by rfl) (hx : Loc X.env.scope x := by first | exact Or.inl rfl | exact Or.inr rfl) (hs : swapsWith e (some (.Name x pos')) pos.line X.env = pure false := by rfl) (hf : X.fn x = true ∨ X.env.scope.names.lookup x = some .local := by first | exact .inl rfl | exact .inr rfl | assumption) :
    DS X (.Assign [.Name x pos'] e pos) (sSet i F) :=
  weakS (ps_set hN hi hx h hs hf) fun D' σ H ⟨ρ, μ, E, s, g, c⟩ => Lift.go s g fun d μ1 v H1 g1 s1 n1 r1 => c.nx _ μ1 _ H1 g1 (s1.set r1 i) n1
/-- the list in slot i changes no more -/
def sFrz (i : Nat) (G : TSD) : TSD := fun E ρ μ => ∃ p ds, ρ[i]? = some (some (.ptr p)) ∧ μ p = some (.lst ds) ∧ G E (ρ.set i (some (.lst ds))) (μ.del p)
theorem set_get_self {α : Type} {l : List α} {i : Nat} {a : α} (h : l[i]? = some a) : l.set i a = l := by
  obtain ⟨hl, e⟩ := List.getElem?_eq_some_iff.mp h
  subst e
  exact List.set_getElem_self hl
theorem dss_frz (i : Nat) {sts : List Stmt} (h : DSs X sts G1) : DSs X sts (sFrz i G1) :=
  weakSs h fun D' σ H ⟨ρ, μ, E, s, ⟨p, ds, e, hp, g⟩, c⟩ => by
    obtain ⟨n, r⟩ := Nx.frz s.wd hp
    refine ⟨_, _, E, ?_, g, c.after n⟩
    obtain ⟨v, hv, rv⟩ := s.env.2 i _ e
    cases rv
    have := (s.next n).set r i
    rw [set_get_self hv] at this
    exact this
end

/-! ### a def -/
def startD (N : List Str) (ds : List D) : Env := ds.map some ++ List.replicate (N.length - ds.length) none
theorem renv_start {K : PySem.W.Frag} {G : Hp} {N : List Str} {vs : List V} {ds : List D} (r : RpAll K G vs ds) : Renv K G (L2.start N vs) (startD N ds) := by
  refine ⟨by unfold L2.start startD; rw [List.length_append, List.length_append, List.length_map, List.length_map, List.length_replicate, List.length_replicate, r.length], fun i d h => ?_⟩
  unfold startD at h
  unfold L2.start
  by_cases hi : i < ds.length
  · rw [List.getElem?_append_left (by rw [List.length_map]; exact hi), List.getElem?_map] at h
    rw [List.getElem?_append_left (by rw [List.length_map, r.length]; exact hi), List.getElem?_map]
    cases q : ds[i]? with
    | none => rw [q] at h; cases h
    | some e =>
      rw [q] at h; cases h
      obtain ⟨v, h1, h2⟩ := r.get q
      exact ⟨v, by rw [h1]; rfl, h2⟩
  · rw [List.getElem?_append_right (by rw [List.length_map]; omega), List.getElem?_replicate] at h
    split at h <;> cases h
theorem Fun.okD {P : Program} {w : World} {K : PySem.W.Frag} {mg : Str → Option Value} {base : Heap} {x qual : Str} {st : Stmt} {f : Addr} {fd : FuncData} {N ps : List Str} {k : Nat} {C : CT} {G : TSD} (F : L2.Fun K x qual st f fd) (S : FnScope N ps (defScope st))
    (body : ∀ (cdv : Value) (A : Around) (outer : List PySem.Env) (s : Shared) (H : Hp) (E : XK), Room k (A.deeper (PyProof.Rows.envOfC qual (defScope st) s.heap.objs.size f cdv)) → DSs (cxOf CX0 P w K mg base N qual (defScope st) f cdv A outer s H E).nox (defBody st) G)
    (len : ∀ ds μ Q, C ds μ Q → ds.length = ps.length)
    (h : ∀ ds μ Q, C ds μ Q → G { nx := fun _ μ' => Q .non μ', rt := Q } (startD N ds) μ) : FnOk P w K mg base CX0 (k + 1) f fd ps (spD K C) := by
  refine F.ok S (fun vs H Q E ⟨ds, μ, Qd, r, _, c, _⟩ => r.length.trans (len ds μ Qd c)) fun cdv A outer s H vs Q E hr ⟨ds, μ, Qd, r, w', c, kk⟩ => ?_
  refine ⟨_, body cdv A outer s H E hr, startD N ds, μ, _, ⟨renv_start r, w'⟩, h ds μ Qd c, ⟨fun ρ' μ' σ' H' g s' n => kk .non μ' .non H' g n .non, fun d μ' v H' g n r' => kk d μ' v H' g n r', fun _ _ _ _ z => z.elim, fun _ _ _ _ z => z.elim⟩⟩
end DL
end

-- part DL2
section
namespace DL
open PySem L2

/-! ### operators by data -/
section
variable {K : PySem.W.Frag}
theorem OpD.or {r r' : R2} {f f' g : F2} (h : OpD K r f) (h' : OpD K r' f') (sp : ∀ μ x y P, g μ x y P → f μ x y P ∨ f' μ x y P) : OpD K (fun x y H Q => r x y H Q ∨ r' x y H Q) g :=
  fun x y vx vy H μ P Q w rx ry q k => (sp μ x y P q).elim (fun z => .inl (h x y vx vy H μ P Q w rx ry z k)) fun z => .inr (h' x y vx vy H μ P Q w rx ry z k)
/-- two ints -/
def fII (C : Int → Int → Prop) (g : Int → Int → D) : F2 := fun _ x y P => match x, y with
  | .int i, .int j => C i j ∧ P (g i j)
  | _, _ => False
def isSc : D → Bool
  | .int _ => true
  | .bl _ => true
  | _ => false
def vOf : D → V
  | .int i => .int i
  | .bl b => .bl b
  | _ => .non
theorem od_ii {C : Int → Int → Prop} {g : Int → Int → D} {gv : Int → Int → V} (hg : ∀ i j G, Rp K G (gv i j) (g i j)) : OpD K (rI C gv) (fII C g) := by
  intro x y vx vy H μ P Q w rx ry q k
  cases rx <;> try exact q.elim
  cases ry <;> try exact q.elim
  exact ⟨_, _, rfl, rfl, q.1, k _ _ H q.2 (Nx.refl w) (hg _ _ _)⟩
theorem od_ii0 {g : Int → Int → D} {gv : Int → Int → V} (hg : ∀ i j G, Rp K G (gv i j) (g i j)) : OpD K (rI0 gv) (fII (fun _ _ => True) g) := by
  intro x y vx vy H μ P Q w rx ry q k
  cases rx <;> try exact q.elim
  cases ry <;> try exact q.elim
  exact ⟨_, _, rfl, rfl, k _ _ H q.2 (Nx.refl w) (hg _ _ _)⟩
def fAdd : F2 := fun _ x y P => match x, y with
  | .int i, .int j => P (.int (i + j))
  | .str a, .str b => a.length + b.length ≤ sizeLine ∧ P (.str (a ++ b))
  | .lst a, .lst b => a.length + b.length ≤ sizeLine ∧ P (.lst (a ++ b))
  | .tup a, .tup b => a.length + b.length ≤ sizeLine ∧ P (.tup (a ++ b))
  | _, _ => False
theorem sok_add {a b : Str} (ha : SOk a) (hb : SOk b) (h : a.length + b.length ≤ sizeLine) : SOk (a ++ b) := by
  refine ⟨?_, ?_⟩
  · show (a.cps ++ b.cps).size ≤ _
    rw [Array.size_append]
    exact h
  · show (a.cps ++ b.cps).all _ = true
    rw [Array.all_append, Bool.and_eq_true]
    exact ⟨ha.2, hb.2⟩
theorem str_len_add (a b : Str) : (a ++ b).length = a.length + b.length := by
  show (a.cps ++ b.cps).size = a.cps.size + b.cps.size
  simp
def rAddD (K : PySem.W.Frag) : R2 := fun x y H Q => (rI0 fun i j => .int (i + j)) x y H Q ∨ (fun x y H Q => (∃ i j, x = V.str i ∧ y = V.str j ∧ i.length + j.length ≤ sizeLine ∧ Q (.str (i ++ j)) H) ∨ ((rCat x y H Q) ∨ rCatA K x y H Q)) x y H Q
theorem op_addD {X : Cx} : OpR X (binaryOp .Add) (rAddD X.K) := op_add.or (op_add_str.or (op_cat.or op_catA))
theorem od_add : OpD K (rAddD K) fAdd := by
  intro x y vx vy H μ P Q w rx ry q k
  cases rx <;> cases ry <;> try exact q.elim
  · exact .inl ⟨_, _, rfl, rfl, k _ _ H q (Nx.refl w) (.int _)⟩
  · rename_i a ha b hb
    exact .inr (.inl ⟨_, _, rfl, rfl, q.1, k _ _ H q.2 (Nx.refl w) (.str _ (sok_add ha hb q.1))⟩)
  · rename_i a xs ds ha ra za b ys es hb rb zb
    have hz : xs.length + ys.length ≤ sizeLine := by rw [ra.length, rb.length]; exact q.1
    refine .inr (.inr (.inr ⟨_, _, xs, ys, rfl, rfl, SqT.of (hide_in ha), SqT.of (hide_in hb), hz, fun e => ?_, fun e1 e2 => ?_, fun e1 e2 p hp => ?_⟩))
    · subst e
      cases ra
      exact k _ _ H q.2 (Nx.refl w) (.tup hb rb zb)
    · subst e2
      cases rb
      exact k _ _ H q.2 (Nx.refl w) (.tup ha (by rw [List.append_nil]; exact ra) (by rw [List.append_nil]; exact za))
    · have n : Nx K H μ (upd H p (.tup (xs ++ ys))) μ := Nx.new w hp
      exact k _ _ _ q.2 n (.tup (new_at (w.free hp)) ((ra.append rb).mono n.ext) (by rw [List.length_append]; exact q.1))
  · rename_i a xs ds ha ra za b ys es hb rb zb
    have hz : xs.length + ys.length ≤ sizeLine := by rw [ra.length, rb.length]; exact q.1
    refine .inr (.inr (.inl ⟨_, _, xs, ys, rfl, rfl, hide_in ha, hide_in hb, hz, fun p hp => ?_⟩))
    have n : Nx K H μ (upd H p (.lst (xs ++ ys))) μ := Nx.new w hp
    exact k _ _ _ q.2 n (.lst (new_at (w.free hp)) ((ra.append rb).mono n.ext) (by rw [List.length_append]; exact q.1))
/-- a * b: two ints, an int and a truth value, a text and an int -/
def b2I (b : Bool) : Int := if b = true then 1 else 0
def fMul : F2 := fun _ x y P => match x, y with
  | .int i, .int j => CMul i j ∧ P (.int (i * j))
  | .int i, .bl b => P (.int (i * b2I b))
  | _, _ => False
def rMulD : R2 := fun x y H Q => (rI CMul fun i j => .int (i * j)) x y H Q ∨ (∃ i b, x = V.int i ∧ y = V.bl b ∧ Q (.int (i * b2I b)) H)
theorem op_mulB {X : Cx} : OpR X (binaryOp .Mult) (fun x y H Q => ∃ i b, x = V.int i ∧ y = V.bl b ∧ Q (.int (i * b2I b)) H) := by
  intro pins s σ H x y v u Q I rx ry h
  obtain ⟨i, b, rfl, rfl, q⟩ := h
  obtain ⟨t, rfl⟩ := rx
  cases ry
  exact PySem.IntBool.mul_int_bool ⟨.int _, H, I.tok _, ⟨_, rfl⟩, q⟩
theorem op_mulD {X : Cx} : OpR X (binaryOp .Mult) rMulD := op_mul.or op_mulB
theorem od_mul : OpD K rMulD fMul := by
  intro x y vx vy H μ P Q w rx ry q k
  cases rx <;> cases ry <;> try exact q.elim
  · exact .inr ⟨_, _, rfl, rfl, k _ _ H q (Nx.refl w) (.int _)⟩
  · exact .inl ⟨_, _, rfl, rfl, q.1, k _ _ H q.2 (Nx.refl w) (.int _)⟩
end

/-! ### equality of data -/
mutual
def toP : D → PyData
  | .non => .none
  | .bl b => .bool b
  | .int i => .int i
  | .str s => .str s
  | .tup ds => .tuple (toPs ds)
  | .lst ds => .list (toPs ds)
  | _ => .none
def toPs : List D → List PyData
  | [] => []
  | d :: ds => toP d :: toPs ds
end
mutual
/-- plain through and through, of at most n levels -/
def plain : Nat → D → Bool
  | _, .non => true
  | _, .bl _ => true
  | _, .int _ => true
  | _, .str _ => true
  | n + 1, .tup ds => plains n ds
  | n + 1, .lst ds => plains n ds
  | _, _ => false
def plains : Nat → List D → Bool
  | _, [] => true
  | n, d :: ds => plain n d && plains n ds
end
mutual
def eqvD : D → D → Bool
  | .non, .non => true
  | .bl a, .bl b => a == b
  | .int a, .int b => a == b
  | .bl a, .int b => b2I a == b
  | .int a, .bl b => a == b2I b
  | .str a, .str b => a == b
  | .tup a, .tup b => eqvDs a b
  | .lst a, .lst b => eqvDs a b
  | _, _ => false
def eqvDs : List D → List D → Bool
  | [], [] => true
  | x :: xs, y :: ys => eqvD x y && eqvDs xs ys
  | _, _ => false
end
section
variable {K : PySem.W.Frag} {G : Hp}
mutual
theorem dp_of {H : Hp} {μ : Mu} : ∀ {v : V} {d : D} {n : Nat}, Rp K (hide H μ) v d → plain n d = true → Dp K H v (toP d)
  | _, _, _, .non, _ => .non
  | _, _, _, .bl b, _ => .bl b
  | _, _, _, .int i, _ => .int i
  | _, _, _, .str x _, _ => .str x
  | _, _, n, .tup (ds := ds) h r _, p => by
    cases n with
    | zero => simp [plain] at p
    | succ n => exact .tup (SqT.of (hide_in h)) (dp_all r (by simpa [plain] using p))
  | _, _, n, .lst (ds := ds) h r _, p => by
    cases n with
    | zero => simp [plain] at p
    | succ n => exact .lst (SqL.of (hide_in h)) (dp_all r (by simpa [plain] using p))
  | _, _, n, .ptr a, p => by cases n <;> simp [plain] at p
  | _, _, n, .scr h, p => by cases n <;> simp [plain] at p
  | _, _, n, .ty s, p => by cases n <;> simp [plain] at p
theorem dp_all {H : Hp} {μ : Mu} : ∀ {vs : List V} {ds : List D} {n : Nat}, RpAll K (hide H μ) vs ds → plains n ds = true → DpAll K H vs (toPs ds)
  | _, _, _, .nil, _ => .nil
  | _, _, n, .cons r t, p => by
    simp only [plains, Bool.and_eq_true] at p
    exact .cons (dp_of r p.1) (dp_all t p.2)
end
mutual
theorem lay_of : ∀ {v : V} {d : D} {n : Nat}, Rp K G v d → plain n d = true → (toP d).canLay0 = true ∧ (toP d).depth ≤ n
  | _, _, _, .non, _ => by simp [toP, PyData.canLay0, PyData.depth]
  | _, _, _, .bl b, _ => by simp [toP, PyData.canLay0, PyData.depth]
  | _, _, _, .int i, _ => by simp [toP, PyData.canLay0, PyData.depth]
  | _, _, _, .str x h, _ => by simp [toP, PyData.canLay0, PyData.depth, h.2]
  | _, _, n, .tup (ds := ds) _ r _, p => by
    cases n with
    | zero => simp [plain] at p
    | succ n =>
      have := lay_all (n := n) r (by simpa [plain] using p)
      simp only [toP, PyData.canLay0, PyData.depth]
      exact ⟨this.1, by omega⟩
  | _, _, n, .lst (ds := ds) _ r _, p => by
    cases n with
    | zero => simp [plain] at p
    | succ n =>
      have := lay_all (n := n) r (by simpa [plain] using p)
      simp only [toP, PyData.canLay0, PyData.depth]
      exact ⟨this.1, by omega⟩
  | _, _, n, .ptr a, p => by cases n <;> simp [plain] at p
  | _, _, n, .scr h, p => by cases n <;> simp [plain] at p
  | _, _, n, .ty s, p => by cases n <;> simp [plain] at p
theorem lay_all : ∀ {vs : List V} {ds : List D} {n : Nat}, RpAll K G vs ds → plains n ds = true → PyData.canLayAll0 (toPs ds) = true ∧ PyData.depthAll (toPs ds) ≤ n
  | _, _, _, .nil, _ => by simp [toPs, PyData.canLayAll0, PyData.depthAll]
  | _, _, n, .cons (d := d) (ds := ds) r t, p => by
    simp only [plains, Bool.and_eq_true] at p
    have h1 := lay_of r p.1
    have h2 := lay_all t p.2
    simp only [toPs, PyData.canLayAll0, PyData.depthAll, Bool.and_eq_true]
    exact ⟨⟨h1.1, h2.1⟩, by omega⟩
end
theorem shaped_of {v : V} {d : D} {n : Nat} (r : Rp K G v d) (h : plain n d = true) (hn : n ≤ 64) : SeqAt.shaped (toP d) = true := by
  have := lay_of r h
  show ((toP d).canLay0 && decide ((toP d).depth ≤ 64)) = true
  rw [Bool.and_eq_true]
  exact ⟨this.1, decide_eq_true (by omega)⟩
mutual
theorem eqv_toP : ∀ {n m : Nat} (x y : D), plain n x = true → plain m y = true → PyData.eqv (toP x) (toP y) = eqvD x y
  | n, m, .non, .non, _, _ => by simp [toP, PyData.eqv, eqvD]
  | n, m, .non, .bl _, _, _ => by simp [toP, PyData.eqv, eqvD]
  | n, m, .non, .int _, _, _ => by simp [toP, PyData.eqv, eqvD]
  | n, m, .non, .str _, _, _ => by simp [toP, PyData.eqv, eqvD]
  | n, m, .non, .tup _, _, _ => by simp [toP, PyData.eqv, eqvD]
  | n, m, .non, .lst _, _, _ => by simp [toP, PyData.eqv, eqvD]
  | n, m, .bl _, .non, _, _ => by simp [toP, PyData.eqv, eqvD]
  | n, m, .bl _, .bl _, _, _ => by simp [toP, PyData.eqv, eqvD]
  | n, m, .bl _, .int _, _, _ => by simp [toP, PyData.eqv, eqvD, b2I]
  | n, m, .bl _, .str _, _, _ => by simp [toP, PyData.eqv, eqvD]
  | n, m, .bl _, .tup _, _, _ => by simp [toP, PyData.eqv, eqvD]
  | n, m, .bl _, .lst _, _, _ => by simp [toP, PyData.eqv, eqvD]
  | n, m, .int _, .non, _, _ => by simp [toP, PyData.eqv, eqvD]
  | n, m, .int _, .bl _, _, _ => by simp [toP, PyData.eqv, eqvD, b2I]
  | n, m, .int _, .int _, _, _ => by simp [toP, PyData.eqv, eqvD]
  | n, m, .int _, .str _, _, _ => by simp [toP, PyData.eqv, eqvD]
  | n, m, .int _, .tup _, _, _ => by simp [toP, PyData.eqv, eqvD]
  | n, m, .int _, .lst _, _, _ => by simp [toP, PyData.eqv, eqvD]
  | n, m, .str _, .non, _, _ => by simp [toP, PyData.eqv, eqvD]
  | n, m, .str _, .bl _, _, _ => by simp [toP, PyData.eqv, eqvD]
  | n, m, .str _, .int _, _, _ => by simp [toP, PyData.eqv, eqvD]
  | n, m, .str _, .str _, _, _ => by simp [toP, PyData.eqv, eqvD]
  | n, m, .str _, .tup _, _, _ => by simp [toP, PyData.eqv, eqvD]
  | n, m, .str _, .lst _, _, _ => by simp [toP, PyData.eqv, eqvD]
  | n, m, .tup _, .non, _, _ => by simp [toP, PyData.eqv, eqvD]
  | n, m, .tup _, .bl _, _, _ => by simp [toP, PyData.eqv, eqvD]
  | n, m, .tup _, .int _, _, _ => by simp [toP, PyData.eqv, eqvD]
  | n, m, .tup _, .str _, _, _ => by simp [toP, PyData.eqv, eqvD]
  | n, m, .tup xs, .tup ys, p, q => by
    cases n with
    | zero => simp [plain] at p
    | succ n =>
      cases m with
      | zero => simp [plain] at q
      | succ m =>
        simp only [toP, PyData.eqv, eqvD]
        exact eqv_all xs ys (by simpa [plain] using p) (by simpa [plain] using q)
  | n, m, .tup _, .lst _, _, _ => by simp [toP, PyData.eqv, eqvD]
  | n, m, .lst _, .non, _, _ => by simp [toP, PyData.eqv, eqvD]
  | n, m, .lst _, .bl _, _, _ => by simp [toP, PyData.eqv, eqvD]
  | n, m, .lst _, .int _, _, _ => by simp [toP, PyData.eqv, eqvD]
  | n, m, .lst _, .str _, _, _ => by simp [toP, PyData.eqv, eqvD]
  | n, m, .lst _, .tup _, _, _ => by simp [toP, PyData.eqv, eqvD]
  | n, m, .lst xs, .lst ys, p, q => by
    cases n with
    | zero => simp [plain] at p
    | succ n =>
      cases m with
      | zero => simp [plain] at q
      | succ m =>
        simp only [toP, PyData.eqv, eqvD]
        exact eqv_all xs ys (by simpa [plain] using p) (by simpa [plain] using q)
  | n, m, .ptr a, y, p, _ => by cases n <;> simp [plain] at p
  | n, m, .scr a, y, p, _ => by cases n <;> simp [plain] at p
  | n, m, .ty a, y, p, _ => by cases n <;> simp [plain] at p
  | n, m, x, .ptr a, _, p => by cases m <;> simp [plain] at p
  | n, m, x, .scr a, _, p => by cases m <;> simp [plain] at p
  | n, m, x, .ty a, _, p => by cases m <;> simp [plain] at p
theorem eqv_all : ∀ {n m : Nat} (xs ys : List D), plains n xs = true → plains m ys = true → PyData.eqvAll (toPs xs) (toPs ys) = eqvDs xs ys
  | n, m, [], [], _, _ => by simp [toPs, PyData.eqvAll, eqvDs]
  | n, m, [], _ :: _, _, _ => by simp [toPs, PyData.eqvAll, eqvDs]
  | n, m, _ :: _, [], _, _ => by simp [toPs, PyData.eqvAll, eqvDs]
  | n, m, x :: xs, y :: ys, p, q => by
    simp only [plains, Bool.and_eq_true] at p q
    simp only [toPs, PyData.eqvAll, eqvDs]
    rw [eqv_toP x y p.1 q.1, eqv_all xs ys p.2 q.2]
end
def fEq : F2 := fun _ x y P => plain 16 x = true ∧ plain 16 y = true ∧ P (.bl (eqvD x y))
def fNe : F2 := fun _ x y P => plain 16 x = true ∧ plain 16 y = true ∧ P (.bl (!eqvD x y))
theorem od_eq : OpD K (rEqD K) fEq := fun x y vx vy H μ P Q w rx ry ⟨px, py, q⟩ k =>
  ⟨toP x, toP y, dp_of rx px, dp_of ry py, shaped_of rx px (by decide), shaped_of ry py (by decide), by rw [eqv_toP x y px py]; exact k _ _ H q (Nx.refl w) (.bl _)⟩
theorem od_ne : OpD K (rNeD K) fNe := fun x y vx vy H μ P Q w rx ry ⟨px, py, q⟩ k =>
  ⟨toP x, toP y, dp_of rx px, dp_of ry py, shaped_of rx px (by decide), shaped_of ry py (by decide), by rw [eqv_toP x y px py]; exact k _ _ H q (Nx.refl w) (.bl _)⟩
end
/-! ### is None; in; places -/
section
variable {K : PySem.W.Frag}
def isN : D → Bool
  | .non => true
  | _ => false
def fIsN : F2 := fun _ x y P => y = .non ∧ P (.bl (isN x))
def fNotN : F2 := fun _ x y P => y = .non ∧ P (.bl (!isN x))
theorem isN_of {G : Hp} {v : V} {d : D} (r : Rp K G v d) : decide (v = .non) = isN d := by cases r <;> simp [isN]
theorem od_isN : OpD K (fun x y H Q => y = V.non ∧ Q (.bl (decide (x = .non))) H) fIsN := fun x y vx vy H μ P Q w rx ry ⟨e, q⟩ k => by
  subst e; cases ry
  exact ⟨rfl, by rw [isN_of rx]; exact k _ _ H q (Nx.refl w) (.bl _)⟩
theorem od_notN : OpD K (fun x y H Q => y = V.non ∧ Q (.bl (!decide (x = .non))) H) fNotN := fun x y vx vy H μ P Q w rx ry ⟨e, q⟩ k => by
  subst e; cases ry
  exact ⟨rfl, by rw [isN_of rx]; exact k _ _ H q (Nx.refl w) (.bl _)⟩
/-- x[i] -/
def fIx : F2 := fun μ x y P => match x, y with
  | .ptr p, .int i => ∃ ds d, μ p = some (.lst ds) ∧ atI ds i = some d ∧ P d
  | .lst ds, .int i => ∃ d, atI ds i = some d ∧ P d
  | .tup ds, .int i => ∃ d, atI ds i = some d ∧ P d
  | .str s, .int i => ∃ c, atI s.cps.toList i = some c ∧ P (.str ⟨#[c]⟩)
  | _, _ => False
theorem RpAll.at {G : Hp} {vs : List V} {ds : List D} {i : Int} {d : D} (r : RpAll K G vs ds) (h : atI ds i = some d) : ∃ v, atI vs i = some v ∧ Rp K G v d := by
  unfold atI at h ⊢
  rw [r.length]
  cases q : ixN ds.length i with
  | none => rw [q] at h; cases h
  | some j =>
    rw [q] at h
    obtain ⟨v, h1, h2⟩ := r.get (show ds[j]? = some d from h)
    exact ⟨v, h1, h2⟩
theorem sign_ok {s : Str} {i : Int} {c : Nat} (hs : SOk s) (h : atI s.cps.toList i = some c) : SOk ⟨#[c]⟩ := by
  refine ⟨by show 1 ≤ sizeLine; decide, ?_⟩
  obtain ⟨j, _, h2, _⟩ := atI_get h
  have h3 := hs.2
  unfold PyData.strOk at h3 ⊢
  rw [Array.all_eq_true'] at h3
  have := h3 c (by have := List.mem_of_getElem? h2; simpa using this)
  simpa using this
theorem od_ix : OpD K (rIx K) fIx := by
  intro x y vx vy H μ P Q w rx ry q k
  cases rx <;> cases ry <;> try exact q.elim
  · rename_i s hz i
    obtain ⟨c, h, q⟩ := q
    exact .inr (.inr ⟨_, _, c, rfl, rfl, hz.1, h, k _ _ H q (Nx.refl w) (.str _ (sign_ok hz h))⟩)
  · rename_i a xs ds ha ra za i
    obtain ⟨d, h, q⟩ := q
    obtain ⟨v, h1, h2⟩ := ra.at h
    exact .inr (.inl ⟨_, _, _, v, rfl, rfl, SqT.of (hide_in ha), h1, k d v H q (Nx.refl w) h2⟩)
  · rename_i a xs ds ha ra za i
    obtain ⟨d, h, q⟩ := q
    obtain ⟨v, h1, h2⟩ := ra.at h
    exact .inl ⟨_, _, _, v, rfl, rfl, SqL.of (hide_in ha), h1, k d v H q (Nx.refl w) h2⟩
  · rename_i a i
    obtain ⟨ds, d, hp, h, q⟩ := q
    obtain ⟨xs, e, ra, za⟩ := w a _ hp
    obtain ⟨v, h1, h2⟩ := ra.at h
    exact .inl ⟨_, _, _, v, rfl, rfl, SqL.of e, h1, k d v H q (Nx.refl w) h2⟩
/-- flat things, by their equality -/
def flatD : D → Bool
  | .non => true
  | .bl _ => true
  | .int _ => true
  | .str _ => true
  | _ => false
theorem flat_of {G : Hp} {v : V} {d : D} (r : Rp K G v d) (h : flatD d = true) : flatV v = true := by cases r <;> first | rfl | cases h
theorem eqV_of {G : Hp} {v u : V} {d e : D} (r : Rp K G v d) (r' : Rp K G u e) (h : flatD d = true) (h' : flatD e = true) : eqV v u = eqvD d e := by
  cases r <;> (try (cases h; done)) <;> cases r' <;> (try (cases h'; done)) <;> first | rfl | simp [eqV, eqvD, b2I]
theorem flats_of {G : Hp} : ∀ {vs : List V} {ds : List D}, RpAll K G vs ds → ds.all flatD = true → vs.all flatV = true
  | _, _, .nil, _ => rfl
  | _, _, .cons r t, h => by
    simp only [List.all_cons, Bool.and_eq_true] at h ⊢
    exact ⟨flat_of r h.1, flats_of t h.2⟩
theorem inV_of {G : Hp} {x : V} {d : D} (rx : Rp K G x d) (hx : flatD d = true) : ∀ {vs : List V} {ds : List D}, RpAll K G vs ds → ds.all flatD = true → inV x vs = ds.any fun e => eqvD e d
  | _, _, .nil, _ => rfl
  | _, _, .cons r t, h => by
    simp only [List.all_cons, Bool.and_eq_true] at h
    have := inV_of rx hx t h.2
    unfold inV at this ⊢
    rw [List.any_cons, List.any_cons, this, eqV_of r rx h.1 hx]
/-- x in y: flat things in a list or tuple, a text in a text -/
def fIn (neg : Bool) : F2 := fun _ x y P => match x, y with
  | .str a, .str b => P (.bl (neg ^^ (!(Builtin.Str.occurrences b a 0 b.length 1).isEmpty)))
  | _, .lst ds => flatD x = true ∧ ds.all flatD = true ∧ P (.bl (neg ^^ ds.any fun e => eqvD e x))
  | _, .tup ds => flatD x = true ∧ ds.all flatD = true ∧ P (.bl (neg ^^ ds.any fun e => eqvD e x))
  | _, _ => False
def rInD2 (K : PySem.W.Frag) : R2 := fun x y H Q => rIn K false x y H Q ∨ (fun x y H Q => ∃ i j, x = V.str i ∧ y = V.str j ∧ Q (.bl (!(Builtin.Str.occurrences j i 0 j.length 1).isEmpty)) H) x y H Q
def rNotInD2 (K : PySem.W.Frag) : R2 := fun x y H Q => rIn K true x y H Q ∨ (fun x y H Q => ∃ i j, x = V.str i ∧ y = V.str j ∧ Q (.bl (!(!(Builtin.Str.occurrences j i 0 j.length 1).isEmpty))) H) x y H Q
theorem op_inD2 {X : Cx} : OpR X (compareOp .In) (rInD2 X.K) := op_in_seq.or op_in_str
theorem op_notInD2 {X : Cx} : OpR X (compareOp .NotIn) (rNotInD2 X.K) := op_notIn_seq.or op_notIn_str
theorem in_seq_go {x y : D} {vx vy : V} {H : Hp} {μ : Mu} {P : D → Prop} {Q : VK} {neg : Bool} {ds : List D} {b : Bool} (w : Wd K H μ) (rx : Rp K (hide H μ) vx x) (ry : Rp K (hide H μ) vy y) (hy : y = .lst ds ∨ y = .tup ds)
    (h1 : flatD x = true) (h2 : ds.all flatD = true) (hb : b = (neg ^^ ds.any fun e => eqvD e x)) (q : P (.bl b)) (k : ∀ z vz H', P z → Nx K H μ H' μ → Rp K (hide H' μ) vz z → Q vz H') : rIn K neg vx vy H Q := by
  rcases hy with rfl | rfl
  · cases ry with
    | lst ha ra za =>
      refine ⟨_, _, rfl, .inl (SqL.of (hide_in ha)), flat_of rx h1, flats_of ra h2, ?_⟩
      have e := inV_of rx h1 ra h2
      rw [e]
      have e2 : (if neg = true then !(ds.any fun e => eqvD e x) else ds.any fun e => eqvD e x) = b := by rw [hb]; cases neg <;> simp
      rw [e2]
      exact k _ _ H q (Nx.refl w) (.bl _)
  · cases ry with
    | tup ha ra za =>
      refine ⟨_, _, rfl, .inr (SqT.of (hide_in ha)), flat_of rx h1, flats_of ra h2, ?_⟩
      have e := inV_of rx h1 ra h2
      rw [e]
      have e2 : (if neg = true then !(ds.any fun e => eqvD e x) else ds.any fun e => eqvD e x) = b := by rw [hb]; cases neg <;> simp
      rw [e2]
      exact k _ _ H q (Nx.refl w) (.bl _)
theorem in_cases {neg : Bool} {μ : Mu} {x y : D} {P : D → Prop} (q : fIn neg μ x y P) : (∃ a b, x = .str a ∧ y = .str b ∧ P (.bl (neg ^^ (!(Builtin.Str.occurrences b a 0 b.length 1).isEmpty)))) ∨
    ∃ ds, (y = .lst ds ∨ y = .tup ds) ∧ flatD x = true ∧ ds.all flatD = true ∧ P (.bl (neg ^^ ds.any fun e => eqvD e x)) := by
  cases y <;> first
    | exact .inr ⟨_, .inl rfl, (by cases x <;> exact q)⟩
    | exact .inr ⟨_, .inr rfl, (by cases x <;> exact q)⟩
    | (cases x <;> first | exact q.elim | exact .inl ⟨_, _, rfl, rfl, q⟩)
theorem od_in : OpD K (rInD2 K) (fIn false) := by
  intro x y vx vy H μ P Q w rx ry q k
  rcases in_cases q with ⟨a, b, rfl, rfl, q⟩ | ⟨ds, hy, h1, h2, q⟩
  · cases rx; cases ry
    exact .inr ⟨_, _, rfl, rfl, k _ _ H q (Nx.refl w) (by rw [Bool.false_xor]; exact .bl _)⟩
  · exact .inl (in_seq_go w rx ry hy h1 h2 rfl q k)
theorem od_notIn : OpD K (rNotInD2 K) (fIn true) := by
  intro x y vx vy H μ P Q w rx ry q k
  rcases in_cases q with ⟨a, b, rfl, rfl, q⟩ | ⟨ds, hy, h1, h2, q⟩
  · cases rx; cases ry
    exact .inr ⟨_, _, rfl, rfl, k _ _ H q (Nx.refl w) (by rw [Bool.true_xor]; exact .bl _)⟩
  · exact .inl (in_seq_go w rx ry hy h1 h2 rfl q k)
/-- order: ints, texts -/
def fCmp (c : Int → Int → Bool) (t : Str → Str → Bool) : F2 := fun _ x y P => match x, y with
  | .int i, .int j => P (.bl (c i j))
  | .str a, .str b => P (.bl (t a b))
  | _, _ => False
theorem od_cmp {c : Int → Int → Bool} {t : Str → Str → Bool} : OpD K (fun x y H Q => (rI0 fun i j => .bl (c i j)) x y H Q ∨ (∃ i j, x = V.str i ∧ y = V.str j ∧ Q (.bl (t i j)) H)) (fCmp c t) := by
  intro x y vx vy H μ P Q w rx ry q k
  cases rx <;> cases ry <;> try exact q.elim
  · exact .inl ⟨_, _, rfl, rfl, k _ _ H q (Nx.refl w) (.bl _)⟩
  · exact .inr ⟨_, _, rfl, rfl, k _ _ H q (Nx.refl w) (.bl _)⟩
end
section
variable {X : Cx}
abbrev ltS (a b : Str) : Bool := decide (a.cps.toList < b.cps.toList)
theorem op_ltD : OpR X (compareOp .Lt) (fun x y H Q => (rI0 fun i j => .bl (decide (i < j))) x y H Q ∨ (∃ i j, x = V.str i ∧ y = V.str j ∧ Q (.bl (decide (i.cps.toList < j.cps.toList))) H)) := op_lt.or op_lt_str
theorem op_leD : OpR X (compareOp .LtE) (fun x y H Q => (rI0 fun i j => .bl (decide (i ≤ j))) x y H Q ∨ (∃ i j, x = V.str i ∧ y = V.str j ∧ Q (.bl (!decide (j.cps.toList < i.cps.toList))) H)) := op_le.or op_le_str
theorem op_gtD : OpR X (compareOp .Gt) (fun x y H Q => (rI0 fun i j => .bl (decide (j < i))) x y H Q ∨ (∃ i j, x = V.str i ∧ y = V.str j ∧ Q (.bl (decide (j.cps.toList < i.cps.toList))) H)) := op_gt.or op_gt_str
theorem op_geD : OpR X (compareOp .GtE) (fun x y H Q => (rI0 fun i j => .bl (decide (j ≤ i))) x y H Q ∨ (∃ i j, x = V.str i ∧ y = V.str j ∧ Q (.bl (!decide (i.cps.toList < j.cps.toList))) H)) := op_ge.or op_ge_str
def fLt : F2 := fCmp (fun i j => decide (i < j)) fun i j => decide (i.cps.toList < j.cps.toList)
def fLe : F2 := fCmp (fun i j => decide (i ≤ j)) fun i j => !decide (j.cps.toList < i.cps.toList)
def fGt : F2 := fCmp (fun i j => decide (j < i)) fun i j => decide (j.cps.toList < i.cps.toList)
def fGe : F2 := fCmp (fun i j => decide (j ≤ i)) fun i j => !decide (i.cps.toList < j.cps.toList)
end
end DL
end

-- part DL3
section
namespace DL
open PySem L2

/-! ### built-ins by data -/
section
variable {K : PySem.W.Frag}
abbrev FB := Mu → List D → (D → Prop) → Prop
def CallD (K : PySem.W.Frag) (r : List V → Hp → VK → Prop) (f : FB) : Prop := ∀ (ds : List D) (vs : List V) (H : Hp) (μ : Mu) (P : D → Prop) (Q : VK), Wd K H μ → RpAll K (hide H μ) vs ds → f μ ds P →
  (∀ z vz H', P z → Nx K H μ H' μ → Rp K (hide H' μ) vz z → Q vz H') → r vs H Q
def dB (f : FB) (A : TF (List D)) : TF D := fun ρ μ Q => A ρ μ fun ds μ1 => f μ1 ds fun z => Q z μ1
theorem cb_go {σ : L2.St} {H : Hp} {Q : VK} {f : FB} {A : TF (List D)} {r : List V → Hp → VK → Prop} (ho : CallD K r f) (h : tD K (dB f A) σ H Q) : tCB r (tDA K A) σ H Q := by
  obtain ⟨ρ, μ, Qd, s, hf, k⟩ := h
  exact Lift.go s hf fun ds μ1 vs H1 g1 s1 n1 r1 => ho ds vs H1 μ1 _ _ s1.wd r1 g1 fun z vz H2 p n2 r2 => k z μ1 vz H2 p (n1.trans n2) r2
theorem de_B {X : Cx} {x : Str} {p pos : Pos} {e : Expr} {es : List Expr} {A : TF (List D)} {id : String} {r : List V → Hp → VK → Prop} {f : FB} (hc : CallR X (.builtin id) r) (ho : CallD X.K r f) (hg : Gl X x) (hm : X.mg x = none) (hv : bootBuiltins x = some (.builtin id)) (ha : DA X (e :: es) A) (hn : x ≠ "__name__" := by decide) (hdb : (x == ("__debug__" : Str)) = false := by decide)
    (he : starEach (e :: es) X.env = (false, eval e X.env) :: starEach es X.env := by rfl) (hpl : (backTo pos (starEach es X.env)).any (·.1) = false := by rfl) : DE X (.Call (.Name x p) (e :: es) [] pos) (dB f A) := weakE (pe_callB hc hg hm hv ha hn hdb he hpl) fun _ _ _ h => cb_go ho h
theorem de_T {X : Cx} {x : Str} {p pos : Pos} {e : Expr} {es : List Expr} {A : TF (List D)} {T : String} {r : List V → Hp → VK → Prop} {f : FB} (hc : CallR X (.type T) r) (ho : CallD X.K r f) (hg : Gl X x) (hm : X.mg x = none) (hv : bootBuiltins x = some (.type T)) (ha : DA X (e :: es) A) (hn : x ≠ "__name__" := by decide) (hdb : (x == ("__debug__" : Str)) = false := by decide)
    (he : starEach (e :: es) X.env = (false, eval e X.env) :: starEach es X.env := by rfl) (hpl : (backTo pos (starEach es X.env)).any (·.1) = false := by rfl) : DE X (.Call (.Name x p) (e :: es) [] pos) (dB f A) := weakE (pe_callTy hc hg hm hv ha hn hdb he hpl) fun _ _ _ h => cb_go ho h
theorem rp1 {G : Hp} {vs : List V} {d : D} (r : RpAll K G vs [d]) : ∃ v, vs = [v] ∧ Rp K G v d := by
  cases r with
  | cons r t => cases t; exact ⟨_, rfl, r⟩
theorem rp2 {G : Hp} {vs : List V} {d e : D} (r : RpAll K G vs [d, e]) : ∃ v u, vs = [v, u] ∧ Rp K G v d ∧ Rp K G u e := by
  cases r with
  | cons r t =>
    cases t with
    | cons r' t => cases t; exact ⟨_, _, rfl, r, r'⟩
/-- len -/
def fLen : FB := fun μ ds P => match ds with
  | [.lst a] => P (.int a.length)
  | [.tup a] => P (.int a.length)
  | [.str a] => P (.int a.length)
  | [.ptr p] => ∃ a, μ p = some (.lst a) ∧ P (.int a.length)
  | _ => False
theorem cd_len : CallD K (fun xs H Q => ∃ x n, xs = [x] ∧ LenV K x H n ∧ Q (.int n) H) fLen := by
  intro ds vs H μ P Q w r q k
  unfold fLen at q
  split at q
  · obtain ⟨v, rfl, r1⟩ := rp1 r
    cases r1 with
    | lst ha ra za => exact ⟨_, _, rfl, .inl ⟨_, SqL.of (hide_in ha), rfl⟩, by rw [ra.length]; exact k _ _ H q (Nx.refl w) (.int _)⟩
  · obtain ⟨v, rfl, r1⟩ := rp1 r
    cases r1 with
    | tup ha ra za => exact ⟨_, _, rfl, .inr ⟨_, SqT.of (hide_in ha), rfl⟩, by rw [ra.length]; exact k _ _ H q (Nx.refl w) (.int _)⟩
  · obtain ⟨v, rfl, r1⟩ := rp1 r
    cases r1 with
    | str x hx => exact ⟨_, _, rfl, ⟨hx.1, rfl⟩, k _ _ H q (Nx.refl w) (.int _)⟩
  · obtain ⟨v, rfl, r1⟩ := rp1 r
    obtain ⟨a, hp, q⟩ := q
    obtain ⟨xs, e, ra, za⟩ := w _ _ hp
    cases r1
    exact ⟨_, _, rfl, .inl ⟨_, SqL.of e, rfl⟩, by rw [ra.length]; exact k _ _ H q (Nx.refl w) (.int _)⟩
  · exact q.elim
/-- list -/
def fList : FB := fun μ ds P => match ds with
  | [.lst a] => P (.lst a)
  | [.tup a] => P (.lst a)
  | [.scr ns] => ns.length ≤ sizeLine ∧ P (.lst (ns.map D.int))
  | [.ptr p] => ∃ a, μ p = some (.lst a) ∧ P (.lst a)
  | _ => False
theorem rp_ints {G : Hp} : ∀ ns : List Int, RpAll K G (ns.map V.int) (ns.map D.int)
  | [] => .nil
  | n :: ns => .cons (.int n) (rp_ints ns)
theorem cd_list : CallD K (fun xs H Q => ∃ p ys, xs = [.ref p] ∧ (SqL K H p ys ∨ SqT K H p ys) ∧ ∀ l, H l = none → Q (.ref l) (upd H l (.lst ys))) fList := by
  intro ds vs H μ P Q w r q k
  have fin : ∀ (xs : List V) (a : List D), RpAll K (hide H μ) xs a → a.length ≤ sizeLine → P (.lst a) → ∀ l, H l = none → Q (.ref l) (upd H l (.lst xs)) := fun xs a ra za q l hl => by
    have n : Nx K H μ (upd H l (.lst xs)) μ := Nx.new w hl
    exact k _ _ _ q n (.lst (new_at (w.free hl)) (ra.mono n.ext) za)
  unfold fList at q
  split at q
  · obtain ⟨v, rfl, r1⟩ := rp1 r
    cases r1 with
    | lst ha ra za => exact ⟨_, _, rfl, .inl (SqL.of (hide_in ha)), fin _ _ ra za q⟩
  · obtain ⟨v, rfl, r1⟩ := rp1 r
    cases r1 with
    | tup ha ra za => exact ⟨_, _, rfl, .inr (SqT.of (hide_in ha)), fin _ _ ra za q⟩
  · obtain ⟨v, rfl, r1⟩ := rp1 r
    cases r1 with
    | @scr a ns' h =>
      refine ⟨_, _, rfl, .inl ?_, fin _ _ (rp_ints _) (by simpa using q.1) q.2⟩
      rcases h with h | h
      · rcases h with h | ⟨o, h⟩
        · exact .inl (.inl (hide_in h))
        · exact .inl (.inr ⟨o, hide_in h⟩)
      · exact .inr h
  · obtain ⟨v, rfl, r1⟩ := rp1 r
    obtain ⟨a, hp, q⟩ := q
    obtain ⟨xs, e, ra, za⟩ := w _ _ hp
    cases r1
    exact ⟨_, _, rfl, .inl (SqL.of e), fin _ _ ra za q⟩
  · exact q.elim
/-- tuple -/
def fTuple : FB := fun μ ds P => match ds with
  | [.lst a] => P (.tup a)
  | [.tup a] => P (.tup a)
  | [.ptr p] => ∃ a, μ p = some (.lst a) ∧ P (.tup a)
  | _ => False
theorem cd_tuple : CallD K (fun xs H Q => ∃ p ys, xs = [.ref p] ∧ ((SqL K H p ys ∧ ∀ l, H l = none → Q (.ref l) (upd H l (.tup ys))) ∨ (SqT K H p ys ∧ Q (.ref p) H))) fTuple := by
  intro ds vs H μ P Q w r q k
  have fin : ∀ (xs : List V) (a : List D), RpAll K (hide H μ) xs a → a.length ≤ sizeLine → P (.tup a) → ∀ l, H l = none → Q (.ref l) (upd H l (.tup xs)) := fun xs a ra za q l hl => by
    have n : Nx K H μ (upd H l (.tup xs)) μ := Nx.new w hl
    exact k _ _ _ q n (.tup (new_at (w.free hl)) (ra.mono n.ext) za)
  unfold fTuple at q
  split at q
  · obtain ⟨v, rfl, r1⟩ := rp1 r
    cases r1 with
    | lst ha ra za => exact ⟨_, _, rfl, .inl ⟨SqL.of (hide_in ha), fin _ _ ra za q⟩⟩
  · obtain ⟨v, rfl, r1⟩ := rp1 r
    cases r1 with
    | tup ha ra za => exact ⟨_, _, rfl, .inr ⟨SqT.of (hide_in ha), k _ _ H q (Nx.refl w) (.tup ha ra za)⟩⟩
  · obtain ⟨v, rfl, r1⟩ := rp1 r
    obtain ⟨a, hp, q⟩ := q
    obtain ⟨xs, e, ra, za⟩ := w _ _ hp
    cases r1
    exact ⟨_, _, rfl, .inl ⟨SqL.of e, fin _ _ ra za q⟩⟩
  · exact q.elim
/-- int(n), abs(n), max(a, b), min(a, b) -/
def fInt : FB := fun _ ds P => match ds with
  | [.int i] => P (.int i)
  | [.bl b] => P (.int (if b then 1 else 0))
  | _ => False
theorem cd_int : CallD K (fun xs H Q => (∃ i, xs = [.int i] ∧ Q (.int i) H) ∨ ∃ k, xs = [.bl k] ∧ Q (.int (if k then 1 else 0)) H) fInt := by
  intro ds vs H μ P Q w r q k
  unfold fInt at q
  split at q
  · obtain ⟨v, rfl, r1⟩ := rp1 r
    cases r1
    exact .inl ⟨_, rfl, k _ _ H q (Nx.refl w) (.int _)⟩
  · obtain ⟨v, rfl, r1⟩ := rp1 r
    cases r1
    exact .inr ⟨_, rfl, k _ _ H q (Nx.refl w) (.int _)⟩
  · exact q.elim
def fI1 (g : Int → Int) : FB := fun _ ds P => match ds with
  | [.int i] => P (.int (g i))
  | _ => False
def fI2 (g : Int → Int → Int) : FB := fun _ ds P => match ds with
  | [.int i, .int j] => P (.int (g i j))
  | _ => False
theorem cd_i1 {g : Int → Int} : CallD K (fun xs H Q => ∃ i, xs = [.int i] ∧ Q (.int (g i)) H) (fI1 g) := by
  intro ds vs H μ P Q w r q k
  unfold fI1 at q
  split at q
  · obtain ⟨v, rfl, r1⟩ := rp1 r
    cases r1
    exact ⟨_, rfl, k _ _ H q (Nx.refl w) (.int _)⟩
  · exact q.elim
theorem cd_i2 {g : Int → Int → Int} : CallD K (fun xs H Q => ∃ i j, xs = [.int i, .int j] ∧ Q (.int (g i j)) H) (fI2 g) := by
  intro ds vs H μ P Q w r q k
  unfold fI2 at q
  split at q
  · obtain ⟨v, u, rfl, r1, r2⟩ := rp2 r
    cases r1; cases r2
    exact ⟨_, _, rfl, k _ _ H q (Nx.refl w) (.int _)⟩
  · exact q.elim
def absI (i : Int) : Int := if i < 0 then -i else i
def maxI (i j : Int) : Int := if j > i then j else i
def minI (i j : Int) : Int := if j < i then j else i
def fAbs : FB := fI1 absI
def fMax2 : FB := fI2 maxI
def fMin2 : FB := fI2 minI
theorem cd_abs : CallD K (fun xs H Q => ∃ i, xs = [V.int i] ∧ Q (.int (if i < 0 then -i else i)) H) fAbs := cd_i1 (g := absI)
theorem cd_max2 : CallD K (fun xs H Q => ∃ i j, xs = [V.int i, .int j] ∧ Q (.int (if j > i then j else i)) H) fMax2 := cd_i2 (g := maxI)
theorem cd_min2 : CallD K (fun xs H Q => ∃ i j, xs = [V.int i, .int j] ∧ Q (.int (if j < i then j else i)) H) fMin2 := cd_i2 (g := minI)
/-- all(xs), any(xs): a list of truth values -/
def bls : List D → Option (List Bool)
  | [] => some []
  | .bl b :: ds => (bls ds).map (b :: ·)
  | _ :: _ => none
theorem bls_of {G : Hp} : ∀ {vs : List V} {ds : List D} {bs : List Bool}, RpAll K G vs ds → bls ds = some bs → vs = bs.map V.bl
  | _, _, _, .nil, h => by cases h; rfl
  | _, _, bs, .cons (ds := ds) r t, h => by
    cases r <;> simp only [bls] at h <;> try (cases h; done)
    rename_i b
    cases q : bls ds with
    | none => rw [q] at h; cases h
    | some cs => rw [q] at h; cases h; rw [bls_of t q]; rfl
def fAll : FB := fun _ ds P => match ds with
  | [.lst a] => ∃ bs, bls a = some bs ∧ P (.bl (bs.all id))
  | _ => False
def fAny : FB := fun _ ds P => match ds with
  | [.lst a] => ∃ bs, bls a = some bs ∧ P (.bl (bs.any id))
  | _ => False
theorem cd_all : CallD K (rAll K) fAll := by
  intro ds vs H μ P Q w r q k
  unfold fAll at q
  split at q
  · obtain ⟨v, rfl, r1⟩ := rp1 r
    obtain ⟨bs, e, q⟩ := q
    cases r1 with
    | lst ha ra za => exact ⟨_, bs, rfl, by rw [← bls_of ra e]; exact SqL.of (hide_in ha), k _ _ H q (Nx.refl w) (.bl _)⟩
  · exact q.elim
theorem cd_any : CallD K (rAny K) fAny := by
  intro ds vs H μ P Q w r q k
  unfold fAny at q
  split at q
  · obtain ⟨v, rfl, r1⟩ := rp1 r
    obtain ⟨bs, e, q⟩ := q
    cases r1 with
    | lst ha ra za => exact ⟨_, bs, rfl, by rw [← bls_of ra e]; exact SqL.of (hide_in ha), k _ _ H q (Nx.refl w) (.bl _)⟩
  · exact q.elim
/-- isinstance -/
def tyD : D → Option String
  | .non => some "NoneType"
  | .bl _ => some "bool"
  | .int _ => some "int"
  | .str _ => some "str"
  | .tup _ => some "tuple"
  | .lst _ => some "list"
  | _ => none
def isA (t n : String) : Bool := t == n || (t == "bool" && n == "int")
def inTys : List D → Option (List String)
  | [] => some []
  | .ty n :: ds => (inTys ds).map (n :: ·)
  | _ :: _ => none
def okTy (n : String) : Bool := n == "list" || n == "tuple" || n == "bool" || n == "str" || n == "int"
def fIsi : FB := fun _ ds P => match ds with
  | [d, .ty n] => ∃ t, tyD d = some t ∧ okTy n = true ∧ P (.bl (isA t n))
  | [d, .tup ts] => ∃ t ns, tyD d = some t ∧ inTys ts = some ns ∧ ns.all okTy = true ∧ P (.bl (ns.any (isA t)))
  | _ => False
theorem tyX_of {H : Hp} {μ : Mu} {v : V} {d : D} {t : String} (r : Rp K (hide H μ) v d) (h : tyD d = some t) : TyX K H v (.type t) := by
  cases r <;> simp only [tyD] at h <;> try (cases h; done)
  · cases h; exact .base .non
  · cases h; exact .base (.bl _)
  · cases h; exact .base (.int _)
  · cases h; exact .base (.str _)
  · cases h; rename_i ha _ _; exact .base (.tup (hide_in ha))
  · cases h; rename_i ha _ _; exact .base (.lst (hide_in ha))
theorem isA_ok {d : D} {t n : String} (h : tyD d = some t) (hn : okTy n = true) : PySem.W.kitOne K (.type t) (.type n) = some (isA t n) := by
  have hn' : n = "list" ∨ n = "tuple" ∨ n = "bool" ∨ n = "str" ∨ n = "int" := by
    simp only [okTy, Bool.or_eq_true, beq_iff_eq] at hn
    rcases hn with (((h | h) | h) | h) | h <;> simp [h]
  have ht : t = "NoneType" ∨ t = "bool" ∨ t = "int" ∨ t = "str" ∨ t = "tuple" ∨ t = "list" := by
    cases d <;> simp only [tyD] at h <;> cases h <;> simp
  refine kit_ty ?_
  rcases hn' with rfl | rfl | rfl | rfl | rfl <;> rcases ht with rfl | rfl | rfl | rfl | rfl | rfl <;> decide +kernel
theorem inTys_of {G : Hp} : ∀ {vs : List V} {ds : List D} {ns : List String}, RpAll K G vs ds → inTys ds = some ns → Paired ClsV vs (ns.map Value.type)
  | _, _, _, .nil, h => by cases h; exact .nil
  | _, _, ns, .cons (ds := ds) r t, h => by
    cases r <;> simp only [inTys] at h <;> try (cases h; done)
    rename_i n
    cases q : inTys ds with
    | none => rw [q] at h; cases h
    | some cs => rw [q] at h; cases h; exact .cons (.ty _) (inTys_of t q)
theorem kitAny_of {d : D} {t : String} (h : tyD d = some t) : ∀ ns : List String, ns.all okTy = true → PySem.W.kitAny K (.type t) (ns.map Value.type) = some (ns.any (isA t))
  | [], _ => rfl
  | n :: ns, hn => by
    simp only [List.all_cons, Bool.and_eq_true] at hn
    refine kitAny_cons (isA_ok h hn.1) (fun e => ?_) fun e => ?_
    · rw [List.any_cons, e, Bool.false_or]; exact kitAny_of h ns hn.2
    · rw [List.any_cons, e, Bool.true_or]
def rIsiD (K : PySem.W.Frag) : List V → Hp → VK → Prop := fun xs H Q => rIsi K xs H Q ∨ rIsiT K xs H Q
theorem call_isiD {X : Cx} : CallR X (.builtin "isinstance") (rIsiD X.K) := call_isi.or call_isiT
theorem cd_isi : CallD K (rIsiD K) fIsi := by
  intro ds vs H μ P Q w r q k
  unfold fIsi at q
  split at q
  · obtain ⟨v, u, rfl, r1, r2⟩ := rp2 r
    obtain ⟨t, e, hn, q⟩ := q
    cases r2
    exact .inl ⟨_, _, _, _, _, rfl, .ty _, tyX_of r1 e, isA_ok e hn, k _ _ H q (Nx.refl w) (.bl _)⟩
  · obtain ⟨v, u, rfl, r1, r2⟩ := rp2 r
    obtain ⟨t, ns, e, ens, hn, q⟩ := q
    cases r2 with
    | tup ha ra za => exact .inr ⟨_, _, _, _, _, _, rfl, hide_in ha, inTys_of ra ens, tyX_of r1 e, kitAny_of e ns hn, k _ _ H q (Nx.refl w) (.bl _)⟩
  · exact q.elim
end

/-! ### slices -/
section
variable {X : Cx} {pos p2 : Pos} {e : Expr} {lo hi : Option Expr} {F : TF D} {L U : TF (Option Int)}
def oNone : TF (Option Int) := fun _ μ Q => Q none μ
def oSome (F : TF D) : TF (Option Int) := fun ρ μ Q => F ρ μ fun d μ1 => ∃ i, d = .int i ∧ Q (some i) μ1
def RO : Hp → Option Int → Option Int → Prop := fun _ b c => b = c
abbrev DOp (X : Cx) (e : Option Expr) (F : TF (Option Int)) : Prop := PO X e (Lift X.K RO F)
theorem do_none : DOp X none oNone := weakO po_none fun σ H Q ⟨ρ, μ, Qd, s, hf, k⟩ => k none μ none H hf (Nx.refl s.wd) rfl
theorem do_some (h : DE X e F) : DOp X (some e) (oSome F) := weakO (po_some h) fun σ H Q ⟨ρ, μ, Qd, s, hf, k⟩ => Lift.go s hf fun d μ1 v H1 ⟨i, e, g⟩ s1 n1 r => by subst e; cases r; exact ⟨i, rfl, k (some i) μ1 _ H1 g n1 rfl⟩
def cutD {α : Type} (xs : List α) (lo hi : Option Int) : List α := (xs.drop (HT.sIx xs.length 0 lo)).take (HT.sIx xs.length xs.length hi - HT.sIx xs.length 0 lo)
theorem cutD_length {α : Type} (xs : List α) (lo hi : Option Int) : (cutD xs lo hi).length ≤ xs.length := by
  unfold cutD; rw [List.length_take, List.length_drop]; omega
theorem rp_cut {K : PySem.W.Frag} {G : Hp} {vs : List V} {ds : List D} (r : RpAll K G vs ds) (lo hi : Option Int) : RpAll K G (cutV vs lo hi) (cutD ds lo hi) := by
  unfold cutV cutD; rw [r.length]; exact (r.drop _).take _
theorem cut_whole {α : Type} (xs : List α) {lo hi : Option Int} (h : HT.sIx xs.length 0 lo = 0 ∧ HT.sIx xs.length xs.length hi = xs.length) : cutD xs lo hi = xs := by
  unfold cutD; rw [h.1, h.2]; simp
theorem sok_cut {s : Str} (h : SOk s) (lo hi : Option Int) : SOk (cutS s lo hi) := by
  refine ⟨Nat.le_trans (cutS_length s lo hi) h.1, ?_⟩
  have h3 := h.2
  unfold PyData.strOk cutS at *
  rw [Array.all_eq_true'] at h3 ⊢
  intro c hc
  refine h3 c ?_
  have hc' : c ∈ ((s.cps.toList.drop (HT.sIx s.length 0 lo)).take (HT.sIx s.length s.length hi - HT.sIx s.length 0 lo)) := by simpa using hc
  have := List.mem_of_mem_drop (List.mem_of_mem_take hc')
  simpa using this
def fSl (d : D) (lo hi : Option Int) (P : D → Prop) : Prop := match d with
  | .lst ds => P (.lst (cutD ds lo hi))
  | .tup ds => P (.tup (cutD ds lo hi))
  | .str s => P (.str (cutS s lo hi))
  | _ => False
def dSl (F : TF D) (L U : TF (Option Int)) : TF D := fun ρ μ Q => F ρ μ fun d μ1 => L ρ μ1 fun l μ2 => U ρ μ2 fun u μ3 => fSl d l u fun z => Q z μ3
def rSlD (K : PySem.W.Frag) : V → Option Int → Option Int → Hp → VK → Prop := fun x lo hi H Q => (fun x lo hi H Q => rSlL K x lo hi H Q ∨ rSlA K x lo hi H Q) x lo hi H Q ∨ rSlS x lo hi H Q
theorem sl_D : SlR X (rSlD X.K) := (sl_list.or sl_tupA).or sl_str
theorem de_sl (h : DE X e F) (hl : DOp X lo L) (hu : DOp X hi U) : DE X (.Subscript e (.Slice lo hi none p2) pos) (dSl F L U) := by
  refine weakE (pe_slice sl_D h hl hu) fun σ H Q ⟨ρ, μ, Qd, s, hf, k⟩ => Lift.go s hf fun d μ1 v H1 g1 s1 n1 r1 => Lift.go (F := L) (R := RO) s1 g1 fun l μ2 l' H2 g2 s2 n2 e2 => Lift.go (F := U) (R := RO) s2 g2 fun u μ3 u' H3 g3 s3 n3 e3 => ?_
  cases (show l' = l from e2)
  cases (show u' = u from e3)
  have r3 := r1.mono (n2.trans n3).ext
  have n := (n1.trans n2).trans n3
  cases r3 with
  | str x hx => exact .inr ⟨x, rfl, hx.1, k _ μ3 _ H3 g3 n (.str _ (sok_cut hx l u))⟩
  | @lst a xs ds ha ra za =>
    refine .inl (.inl ⟨_, _, rfl, SqL.of (hide_in ha), fun p hp => ?_⟩)
    have m : Nx X.K H3 μ3 (upd H3 p (.lst (cutV xs l u))) μ3 := Nx.new s3.wd hp
    exact k _ μ3 _ _ g3 (n.trans m) (.lst (new_at (s3.wd.free hp)) ((rp_cut ra l u).mono m.ext) (Nat.le_trans (cutD_length _ l u) za))
  | @tup a xs ds ha ra za =>
    refine .inl (.inr ⟨_, _, rfl, SqT.of (hide_in ha), fun hw => ?_, fun hw p hp => ?_⟩)
    · rw [ra.length] at hw
      have g3' := g3
      unfold fSl at g3'
      simp only [cut_whole _ hw] at g3'
      exact k _ μ3 _ H3 g3' n (.tup ha ra za)
    · have m : Nx X.K H3 μ3 (upd H3 p (.tup (cutV xs l u))) μ3 := Nx.new s3.wd hp
      exact k _ μ3 _ _ g3 (n.trans m) (.tup (new_at (s3.wd.free hp)) ((rp_cut ra l u).mono m.ext) (Nat.le_trans (cutD_length _ l u) za))
  | non => exact False.elim g3
  | bl _ => exact False.elim g3
  | int _ => exact False.elim g3
  | ptr _ => exact False.elim g3
  | scr _ => exact False.elim g3
  | ty _ => exact False.elim g3
  | exn _ _ => exact False.elim g3
/-- -a -/
def fNeg (d : D) (P : D → Prop) : Prop := match d with
  | .int i => P (.int (-i))
  | _ => False
def dNeg (F : TF D) : TF D := fun ρ μ Q => F ρ μ fun d μ1 => fNeg d fun z => Q z μ1
theorem de_neg (h : DE X e F) : DE X (.UnaryOp .USub e pos) (dNeg F) :=
  weakE (pe_un un_neg h) fun σ H Q ⟨ρ, μ, Qd, s, hf, k⟩ => Lift.go s hf fun d μ1 v H1 g1 s1 n1 r1 => by
    cases r1 <;> first | exact False.elim g1 | exact ⟨_, rfl, k _ μ1 _ H1 g1 n1 (.int _)⟩
/-- a op b op' c -/
def dChn (f f' : F2) (Fa Fb Fc : TF D) : TF D := fun ρ μ Q => Fa ρ μ fun x μ1 => Fb ρ μ1 fun y μ2 => f μ2 x y fun z => ∃ b, z = .bl b ∧ if b = true then Fc ρ μ2 fun w' μ3 => f' μ3 y w' fun z => Q z μ3 else Q (.bl false) μ2
theorem de_chain {op op' : CmpOp} {r r' : R2} {f f' : F2} {a b c : Expr} {Fa Fb Fc : TF D} (ho : OpR X (compareOp op) r) (ho' : OpR X (compareOp op') r') (hf : OpD X.K r f) (hf' : OpD X.K r' f') (ha : DE X a Fa) (hb : DE X b Fb) (hc : DE X c Fc) (hm : lastMarks [op, op'] [b, c] = false := by rfl) :
    DE X (.Compare a [op, op'] [b, c] pos) (dChn f f' Fa Fb Fc) := by
  refine weakE (pe_chain ho ho' ha hb hc hm) fun σ H Q ⟨ρ, μ, Qd, s, g, k⟩ => Lift.go s g fun x μ1 vx H1 g1 s1 n1 r1 => Lift.go s1 g1 fun y μ2 vy H2 g2 s2 n2 r2 => ?_
  refine hf x y vx vy H2 μ2 _ _ s2.wd (r1.mono n2.ext) r2 g2 fun z vz H3 ⟨b, e, g3⟩ n3 r3 => ?_
  subst e
  cases r3
  refine ⟨b, rfl, ?_⟩
  have s3 := s2.next n3
  cases b with
  | true => exact Lift.go s3 g3 fun w' μ4 vw H4 g4 s4 n4 r4 => hf' y w' vy vw H4 μ4 _ _ s4.wd (r2.mono (n3.trans n4).ext) r4 g4 fun z vz H5 p n5 r5 => k z μ4 vz H5 p ((((n1.trans n2).trans n3).trans n4).trans n5) r5
  | false => exact k _ μ2 _ H3 g3 ((n1.trans n2).trans n3) (.bl false)
end
end DL
end

-- part DL4
section
namespace DL
open PySem L2

/-! ### targets -/
abbrev TGD := D → Env → (Env → Prop) → Prop
def gD (K : PySem.W.Frag) (slots : List Nat) (g : TGD) : TG := fun v σ H Q => ∃ (ρ : Env) (μ : Mu) (d : D) (k : Env → Prop), StOk K H μ σ ρ ∧ Rp K (hide H μ) v d ∧ g d ρ k ∧
  ∀ ρ' σ', k ρ' → StOk K H μ σ' ρ' → σ'.length = σ.length → (∀ j, j ∉ slots → σ'[j]? = σ[j]?) → Q σ' H
abbrev DG (X : Cx) (tg : Expr) (slots : List Nat) (g : TGD) : Prop := PG X tg (gD X.K slots g)
theorem weakG {X : Cx} {tg : Expr} {t t' : TG} (h : PG X tg t) (w : ∀ v σ H Q, t' v σ H Q → t v σ H Q) : PG X tg t' := ⟨fun pins s σ H v u Q I r q => h.run pins s σ H v u Q I r (w v σ H Q q)⟩
def gN (i : Nat) : TGD := fun d ρ k => k (ρ.set i (some d))
theorem dg_name (i : Nat) {X : Cx} {x : Str} {pos : Pos} (hN : X.N.Nodup) (hi : X.N[i]? = some x := by rfl) (hx : Loc X.env.scope x := by first | exact Or.inl rfl | exact Or.inr rfl) (hf : X.fn x = true ∨ X.env.scope.names.lookup x = some .local := by first | exact .inl rfl | exact .inr rfl | assumption) : DG X (.Name x pos) [i] (gN i) :=
  weakG (pg_name hN hi hx hf) fun v σ H Q ⟨ρ, μ, d, k, s, r, g, kk⟩ => kk _ _ g (s.set r i) (by rw [List.length_set]) fun j hj => List.getElem?_set_ne (fun e => hj (by simp [e]))
def gNames : List Nat → TGs
  | [] => gNil
  | i :: is => gCons (gName i) (gNames is)
def setAll : Env → List Nat → List D → Env
  | ρ, i :: is, d :: ds => setAll (ρ.set i (some d)) is ds
  | ρ, _, _ => ρ
def gT (is : List Nat) : TGD := fun d ρ k => ∃ ds, d = .tup ds ∧ ds.length = is.length ∧ k (setAll ρ is ds)
theorem gNames_go {K : PySem.W.Frag} {H : Hp} {μ : Mu} : ∀ (is : List Nat) (vs : List V) (ds : List D) (σ : L2.St) (ρ : Env) (Q : L2.St → Hp → Prop), StOk K H μ σ ρ → RpAll K (hide H μ) vs ds → ds.length = is.length →
    (∀ σ', StOk K H μ σ' (setAll ρ is ds) → σ'.length = σ.length → (∀ j, j ∉ is → σ'[j]? = σ[j]?) → Q σ' H) → gNames is vs σ H Q
  | [], vs, ds, σ, ρ, Q, s, r, hl, k => by
    have : ds = [] := List.length_eq_zero_iff.mp hl
    subst this
    cases r
    exact ⟨rfl, k σ s rfl fun _ _ => rfl⟩
  | i :: is, vs, ds, σ, ρ, Q, s, r, hl, k => by
    cases r with
    | nil => cases hl
    | @cons v vs d ds r t =>
      refine ⟨v, vs, rfl, gNames_go is vs ds _ (ρ.set i (some d)) Q (s.set r i) t (by simpa using hl) fun σ' s' h1 h2 => k σ' s' (by rw [h1, List.length_set]) fun j hj => ?_⟩
      rw [h2 j (fun m => hj (List.mem_cons_of_mem _ m)), List.getElem?_set_ne (fun e => hj (by simp [e]))]
theorem dg_tup (is : List Nat) {X : Cx} {es : List Expr} {k : Nat} {pos : Pos} (hc : X.calm = true) (h : PGs X es (gNames is)) (hn : (assignEach es X.env).length = is.length := by rfl) (hst : (assignEach es X.env).findIdx? (·.1) = none := by rfl) : DG X (.Tuple es k pos) is (gT is) :=
  weakG (pg_tup hc h hn hst) fun v σ H Q ⟨ρ, μ, d, k, s, r, ⟨ds, e, hl, g⟩, kk⟩ => by
    subst e
    cases r with
    | tup ha ra za => exact ⟨_, _, rfl, SqT.of (hide_in ha), ra.length.trans hl, gNames_go is _ ds σ ρ Q s ra hl fun σ' s' h1 h2 => kk _ σ' g s' h1 h2⟩
/-- target = value -/
def sAsg (F : TF D) (g : TGD) : TSD := fun E ρ μ => F ρ μ fun d μ1 => g d ρ fun ρ' => E.nx ρ' μ1
theorem ds_asg {X : Cx} {tg e : Expr} {F : TF D} {slots : List Nat} {g : TGD} {pos : Pos} (he : DE X e F) (hg : DG X tg slots g) (hs : swapsWithSole [tg] e pos.line X.env = pure false := by rfl) (hw : swappedStores [tg] e X.env = pure none := by rfl)
    (h1 : (assignEach [tg] X.env).map (·.2) = [assign tg X.env] := by rfl) : DS X (.Assign [tg] e pos) (sAsg F g) :=
  weakS (ps_asg he hg hs hw h1) fun D' σ H ⟨ρ, μ, E, s, f, c⟩ => Lift.go s f fun d μ1 v H1 g1 s1 n1 r1 => ⟨ρ, μ1, d, _, s1, r1, g1, fun ρ' σ' k s' _ _ => c.nx ρ' μ1 σ' H1 k s' n1⟩

/-! ### what a loop walks -/
def Yields (K : PySem.W.Frag) (J : It) (H : Hp) (μ : Mu) (ds : List D) : Prop := ds.length ≤ sizeLine ∧ ∀ H' μ', Nx K H μ H' μ' → ∀ i : Nat,
  (ds.length ≤ i → J.stop i H') ∧ ∀ d, ds[i]? = some d → J.go i H' ∧ ∀ x H2, J.yld i H' x H2 → Nx K H' μ' H2 μ' ∧ Rp K (hide H2 μ') x d
def tTI (K : PySem.W.Frag) (F : TF (List D)) : TI := fun σ H R => ∃ (ρ : Env) (μ : Mu) (Qd : List D → Mu → Prop), StOk K H μ σ ρ ∧ F ρ μ Qd ∧ ∀ ds μ' J H', Qd ds μ' → Nx K H μ H' μ' → Yields K J H' μ' ds → R J H'
abbrev DI (X : Cx) (tg e : Expr) (F : TF (List D)) : Prop := PI X tg e (tTI X.K F)
section
variable {K : PySem.W.Frag}
theorem Yields.after {J : It} {H H' : Hp} {μ μ' : Mu} {ds : List D} (y : Yields K J H μ ds) (n : Nx K H μ H' μ') : Yields K J H' μ' ds := ⟨y.1, fun H2 μ2 m i => y.2 H2 μ2 (n.trans m) i⟩
theorem yields_l {H : Hp} {μ : Mu} {a : Addr} {xs : List V} {ds : List D} (ha : hide H μ a = some (.lst xs)) (ra : RpAll K (hide H μ) xs ds) (za : ds.length ≤ sizeLine) : Yields K (Itl K a) H μ ds := ⟨za, fun H' μ' n i => by
  have q : SqL K H' a xs := SqL.of (hide_in (n.ext _ _ ha))
  refine ⟨fun hi => ⟨xs, q, by rw [ra.length]; exact hi⟩, fun d hd => ?_⟩
  obtain ⟨v, h1, h2⟩ := ra.get hd
  refine ⟨⟨xs, v, q, h1⟩, fun x H2 ⟨e, y⟩ => ?_⟩
  subst e
  have := y xs q
  rw [h1] at this
  cases this
  exact ⟨Nx.refl n.wd, h2.mono n.ext⟩⟩
theorem yields_t {H : Hp} {μ : Mu} {a : Addr} {xs : List V} {ds : List D} (ha : hide H μ a = some (.tup xs)) (ra : RpAll K (hide H μ) xs ds) (za : ds.length ≤ sizeLine) : Yields K (Itt K a) H μ ds := ⟨za, fun H' μ' n i => by
  have q : SqT K H' a xs := SqT.of (hide_in (n.ext _ _ ha))
  refine ⟨fun hi => ⟨xs, q, by rw [ra.length]; exact hi⟩, fun d hd => ?_⟩
  obtain ⟨v, h1, h2⟩ := ra.get hd
  refine ⟨⟨xs, v, q, h1⟩, fun x H2 ⟨e, y⟩ => ?_⟩
  subst e
  have := y xs q
  rw [h1] at this
  cases this
  exact ⟨Nx.refl n.wd, h2.mono n.ext⟩⟩
/-- lo, lo + 1, .. -/
def rngD (lo : Int) (n : Nat) : List D := (List.range n).map fun i => .int (lo + (i : Nat))
theorem yields_r {H : Hp} {μ : Mu} {lo : Int} {n : Nat} (hz : n ≤ sizeLine) : Yields K (Itr lo n) H μ (rngD lo n) := ⟨by simpa [rngD] using hz, fun H' μ' m i => by
  refine ⟨fun hi => ?_, fun d hd => ?_⟩
  · show n ≤ i
    simpa [rngD] using hi
  · have hi : i < n := by
      have := (List.getElem?_eq_some_iff.mp hd).1
      simpa [rngD] using this
    refine ⟨hi, fun x H2 ⟨e, y⟩ => ?_⟩
    subst e; subst y
    have : d = .int (lo + (i : Nat)) := by
      unfold rngD at hd
      rw [List.getElem?_map, List.getElem?_range hi] at hd
      exact (Option.some.inj hd).symm
    subst this
    exact ⟨Nx.refl m.wd, .int _⟩⟩
end
/-- a list, a tuple -/
def iSeq (F : TF D) : TF (List D) := fun ρ μ Q => F ρ μ fun d μ1 => match d with
  | .lst ds => Q ds μ1
  | .tup ds => Q ds μ1
  | _ => False
section
variable {X : Cx} {tg : Expr}
theorem pi_or {l : Expr} {tl : TE} (hl : PE X l tl) : PI X tg l (fun σ H R => tl σ H fun x H1 => (∃ a, x = .ref a ∧ (∃ xs, SqL X.K H1 a xs) ∧ R (Itl X.K a) H1) ∨ ∃ a, x = .ref a ∧ (∃ xs, SqT X.K H1 a xs) ∧ R (Itt X.K a) H1) := by
  constructor
  intro pins s σ H R I h
  -- either kind begins a walk of its own kind: pi_one lays the iterator
  refine thn (hl.run pins s σ H _ I h) ?_
  rintro v s1 ⟨x, H1, I1, r1, ⟨a, rfl, ⟨xs, hq⟩, q⟩ | ⟨a, rfl, ⟨xs, hq⟩, q⟩⟩ <;> cases r1
  · have ⟨its, _, isList, _⟩ := I1.list hq
    exact PySem.wpAny_pyIter_list isList.isList (pi_one I1 _ (turn_list a _) ⟨_, Heap.get?_push_size _ rfl, rfl, rfl⟩ q)
  · have ⟨its, _, isTup, _⟩ := I1.tuple hq
    exact PySem.wpAny_pyIter_tuple (show s1.heap.IsTuple a its.toArray from isTup) (pi_one I1 _ (turn_tuple a _) ⟨_, Heap.get?_push_size _ rfl, rfl, rfl⟩ q)
theorem di_seq {l : Expr} {F : TF D} (hl : DE X l F) : DI X tg l (iSeq F) :=
  weakI (pi_or hl) fun σ H R ⟨ρ, μ, Qd, s, hf, k⟩ => Lift.go s hf fun d μ1 v H1 g1 s1 n1 r1 => by
    cases r1 <;> try exact False.elim g1
    · rename_i ha ra za
      exact .inr ⟨_, rfl, ⟨_, SqT.of (hide_in ha)⟩, k _ μ1 _ H1 g1 n1 (yields_t ha ra za)⟩
    · rename_i ha ra za
      exact .inl ⟨_, rfl, ⟨_, SqL.of (hide_in ha)⟩, k _ μ1 _ H1 g1 n1 (yields_l ha ra za)⟩
def smI (i : Int) : Prop := -1000000 ≤ i ∧ i ≤ 1000000
theorem smI.a {i : Int} (h : smI i) : -(2 ^ 62) ≤ i ∧ i < 2 ^ 62 := ⟨by have := h.1; omega, by have := h.2; omega⟩
theorem smI.z {i : Int} (h : smI i) : i.toNat ≤ sizeLine := Nat.le_trans (by have := h.2; omega : i.toNat ≤ 1000000) (by decide)
theorem smI.z2 {i j : Int} (h : smI i) (h' : smI j) : (j - i).toNat ≤ sizeLine := Nat.le_trans (by have := h.1; have := h'.2; omega : (j - i).toNat ≤ 2000000) (by decide)
def iRg1 (A : TF (List D)) : TF (List D) := fun ρ μ Q => A ρ μ fun ds μ1 => match ds with
  | [.int n] => smI n ∧ Q (rngD 0 n.toNat) μ1
  | _ => False
def iRg2 (A : TF (List D)) : TF (List D) := fun ρ μ Q => A ρ μ fun ds μ1 => match ds with
  | [.int lo, .int n] => smI lo ∧ smI n ∧ Q (rngD lo (n - lo).toNat) μ1
  | _ => False
theorem di_rg1 {a : Expr} {A : TF (List D)} {p pos : Pos} (hg : Gl X "range") (hm : X.mg "range" = none) (ha : DA X [a] A) (hs : starEach [a] X.env = [(false, eval a X.env)] := by rfl) : DI X tg (.Call (.Name "range" p) [a] [] pos) (iRg1 A) :=
  weakI (pi_range1 hg hm ha hs) fun σ H R ⟨ρ, μ, Qd, s, hf, k⟩ => Lift.go s hf fun ds μ1 vs H1 g1 s1 n1 r1 => by
    split at g1
    · obtain ⟨v, rfl, r⟩ := rp1 r1
      cases r
      exact ⟨_, rfl, g1.1.a.1, g1.1.a.2, k _ μ1 _ H1 g1.2 n1 (yields_r g1.1.z)⟩
    · exact False.elim g1
theorem di_rg2 {a b : Expr} {A : TF (List D)} {p pos : Pos} (hg : Gl X "range") (hm : X.mg "range" = none) (ha : DA X [a, b] A) (hs : starEach [a, b] X.env = [(false, eval a X.env), (false, eval b X.env)] := by rfl) (hs2 : starEach [b] X.env = [(false, eval b X.env)] := by rfl) :
    DI X tg (.Call (.Name "range" p) [a, b] [] pos) (iRg2 A) :=
  weakI (pi_range2 hg hm ha hs hs2) fun σ H R ⟨ρ, μ, Qd, s, hf, k⟩ => Lift.go s hf fun ds μ1 vs H1 g1 s1 n1 r1 => by
    split at g1
    · obtain ⟨v, u, rfl, r, r'⟩ := rp2 r1
      cases r; cases r'
      exact ⟨_, _, rfl, ⟨g1.1.a.1, g1.1.a.2, g1.2.1.a.1, g1.2.1.a.2⟩, k _ μ1 _ H1 g1.2.2 n1 (yields_r (g1.1.z2 g1.2.1))⟩
    · exact False.elim g1
end

/-! ### for, while -/
def sFor (F : TF (List D)) (g : TGD) (body : TSD) : TSD := fun E ρ μ => F ρ μ fun ds μ1 => ∃ I : Nat → Env → Mu → Prop, I 0 ρ μ1 ∧
  (∀ i d ρ' μ', ds[i]? = some d → I i ρ' μ' → g d ρ' fun ρ2 => body { E with nx := I (i + 1), ct := I (i + 1), bk := E.nx } ρ2 μ') ∧ ∀ ρ' μ', I ds.length ρ' μ' → E.nx ρ' μ'
theorem ds_for {X : Cx} {pos : Pos} {tg iter : Expr} {body : List Stmt} {F : TF (List D)} {slots : List Nat} {g : TGD} {G : TSD} (hp : PassesOwn (model X.prog X.w) X.A X.env X.xe) (hc : X.calm = true) (hi : DI X tg iter F) (hg : DG X tg slots g) (hb : DSs X body G)
    (hs : ∀ x, foldedSetIterable iter X.env x = pure x := by intro _; rfl) : DS X (.For tg iter body [] pos) (sFor F g G) := by
  refine weakS (ps_for hp hc hi hg hb hs) fun D' σ H ⟨ρ, μ, E, s, f, c⟩ => ⟨ρ, μ, _, s, f, fun ds μ1 J H1 ⟨I, i0, step, fin⟩ n1 y => ?_⟩
  refine ⟨fun i m σ' H' => m = ds.length - i ∧ i ≤ ds.length ∧ ∃ ρ' μ', I i ρ' μ' ∧ StOk X.K H' μ' σ' ρ' ∧ Nx X.K H1 μ1 H' μ', ⟨_, rfl, Nat.zero_le _, ρ, μ1, i0, s.next n1, Nx.refl n1.wd⟩, ?_⟩
  rintro i m σ' H' ⟨rfl, hi, ρ', μ', hI, s', n'⟩
  obtain ⟨y1, y2⟩ := y.2 H' μ' n' i
  by_cases hlt : i < ds.length
  · obtain ⟨go, yl⟩ := y2 ds[i] (by simp [hlt])
    refine .inr ⟨go, fun σ2 H2 => ∃ ρ2 μ2, I (i + 1) ρ2 μ2 ∧ StOk X.K H2 μ2 σ2 ρ2 ∧ Nx X.K H1 μ1 H2 μ2, fun σ2 H2 ⟨ρ2, μ2, a, b, d⟩ => ⟨_, by omega, rfl, hlt, ρ2, μ2, a, b, d⟩, fun x H2 hx => ?_⟩
    obtain ⟨n2, r2⟩ := yl x H2 hx
    refine ⟨ρ', μ', ds[i], _, s'.next n2, r2, step i ds[i] ρ' μ' (by simp [hlt]) hI, fun ρ3 σ3 hb s3 _ _ => ⟨ρ3, μ', _, s3, hb, ?_⟩⟩
    have nn := n'.trans n2
    exact ⟨fun ρ4 μ4 σ4 H4 a s4 n4 => ⟨ρ4, μ4, a, s4, nn.trans n4⟩, fun d μ4 v H4 a n4 r4 => c.rt d μ4 v H4 a ((n1.trans nn).trans n4) r4, fun ρ4 μ4 σ4 H4 a s4 n4 => c.nx ρ4 μ4 σ4 H4 a s4 ((n1.trans nn).trans n4), fun ρ4 μ4 σ4 H4 a s4 n4 => ⟨ρ4, μ4, a, s4, nn.trans n4⟩⟩
  · have e : i = ds.length := by omega
    subst e
    exact .inl ⟨y1 (Nat.le_refl _), c.nx ρ' μ' σ' H' (fin ρ' μ' hI) s' (n1.trans n')⟩
def sWhile (A : TF Bool) (body : TSD) : TSD := fun E ρ μ => ∃ I : Nat → Env → Mu → Prop, (∃ m, I m ρ μ) ∧
  ∀ m ρ' μ', I m ρ' μ' → A ρ' μ' fun b μ2 => if b = true then body { E with nx := fun ρ2 μ3 => ∃ m', m' < m ∧ I m' ρ2 μ3, ct := fun ρ2 μ3 => ∃ m', m' < m ∧ I m' ρ2 μ3, bk := E.nx } ρ' μ2 else E.nx ρ' μ2
theorem ds_while {X : Cx} {pos : Pos} {c : Expr} {body : List Stmt} {A : TF Bool} {G : TSD} (hp : PassesOwn (model X.prog X.w) X.A X.env X.xe) (hc : DT X c A) (hb : DSs X body G) : DS X (.While c body [] pos) (sWhile A G) := by
  refine weakS (ps_while hp hc hb) fun D' σ H ⟨ρ, μ, E, s, ⟨I, ⟨m0, i0⟩, turn⟩, cn⟩ => ?_
  refine ⟨fun m σ' H' => ∃ ρ' μ', I m ρ' μ' ∧ StOk X.K H' μ' σ' ρ' ∧ Nx X.K H μ H' μ', ⟨m0, ρ, μ, i0, s, Nx.refl s.wd⟩, ?_⟩
  rintro m σ' H' ⟨ρ', μ', hI, s', n'⟩
  refine Lift.go (F := A) (R := RB) s' (turn m ρ' μ' hI) fun b μ2 v H2 g2 s2 n2 e2 => ?_
  cases (show v = b from e2)
  cases b with
  | true =>
    refine ⟨fun σ3 H3 => ∃ m', m' < m ∧ ∃ ρ3 μ3, I m' ρ3 μ3 ∧ StOk X.K H3 μ3 σ3 ρ3 ∧ Nx X.K H μ H3 μ3, fun σ3 H3 ⟨m', a, b⟩ => ⟨m', a, b⟩, ρ', μ2, _, s2, g2, ?_⟩
    have nn := n'.trans n2
    exact ⟨fun ρ4 μ4 σ4 H4 ⟨m', a, b⟩ s4 n4 => ⟨m', a, ρ4, μ4, b, s4, nn.trans n4⟩, fun d μ4 v H4 a n4 r4 => cn.rt d μ4 v H4 a (nn.trans n4) r4, fun ρ4 μ4 σ4 H4 a s4 n4 => cn.nx ρ4 μ4 σ4 H4 a s4 (nn.trans n4), fun ρ4 μ4 σ4 H4 ⟨m', a, b⟩ s4 n4 => ⟨m', a, ρ4, μ4, b, s4, nn.trans n4⟩⟩
  | false => exact cn.nx ρ' μ2 σ' H2 g2 s2 (n'.trans n2)

/-! ### comprehensions -/
def wipeE (ρ : Env) : List Nat → Env
  | [] => ρ
  | v :: vs => (wipeE ρ vs).set v none
theorem wipeE_length (ρ : Env) : ∀ vs : List Nat, (wipeE ρ vs).length = ρ.length
  | [] => rfl
  | v :: vs => by unfold wipeE; rw [List.length_set, wipeE_length ρ vs]
theorem renv_wipe {K : PySem.W.Frag} {G : Hp} {σ : L2.St} {ρ : Env} (r : Renv K G σ ρ) : ∀ vs : List Nat, Renv K G (wipe σ vs) (wipeE ρ vs)
  | [] => r
  | v :: vs => by
    have ih := renv_wipe r vs
    refine ⟨by rw [wipe_length, wipeE_length]; exact r.1, fun i d h => ?_⟩
    unfold wipeE at h
    unfold wipe
    by_cases hi : v = i
    · subst hi
      by_cases hl : v < (wipeE ρ vs).length
      · rw [List.getElem?_set_self hl] at h; cases h
      · rw [List.getElem?_eq_none (by simpa using hl)] at h; cases h
    · rw [List.getElem?_set_ne hi] at h ⊢
      exact ih.2 i d h
theorem wipe_at (σ : L2.St) : ∀ (vs : List Nat) (i : Nat), (wipe σ vs)[i]? = if i ∈ vs then (if i < σ.length then some none else none) else σ[i]?
  | [], i => by simp [wipe]
  | v :: vs, i => by
    unfold wipe
    by_cases hi : v = i
    · subst hi
      by_cases hl : v < σ.length
      · rw [List.getElem?_set_self (by rw [wipe_length]; exact hl)]; simp [hl]
      · rw [List.getElem?_eq_none (by rw [List.length_set, wipe_length]; omega)]; simp [hl]
    · rw [List.getElem?_set_ne hi, wipe_at σ vs i]
      have : (i ∈ v :: vs) = (i ∈ vs) := by simp [Ne.symm hi]
      simp only [this]
theorem wipe_same {σ σ2 : L2.St} {vs slots : List Nat} (hl : σ2.length = (wipe σ vs).length) (hj : ∀ j, j ∉ slots → σ2[j]? = (wipe σ vs)[j]?) (hs : ∀ j ∈ slots, j ∈ vs) : wipe σ2 vs = wipe σ vs := by
  apply List.ext_getElem?
  intro i
  rw [wipe_at, wipe_at]
  rw [wipe_length] at hl
  by_cases hi : i ∈ vs
  · simp only [if_pos hi, hl]
  · simp only [if_neg hi]
    rw [hj i (fun m => hi (hs i m)), wipe_at, if_neg hi]
abbrev DTs (X : Cx) (ifs : List Expr) (A : TF Bool) : Prop := PTs X ifs (tDT X.K A)
def yesD : TF Bool := fun _ μ Q => Q true μ
theorem dts_nil {X : Cx} : DTs X [] yesD := ⟨fun pins s σ H Q I ⟨ρ, μ, Qd, st, hf, k⟩ => pts_nil.run pins s σ H Q I (k true μ true H hf (Nx.refl st.wd) rfl)⟩
theorem dts_one {X : Cx} {c : Expr} {A : TF Bool} (h : DT X c A) : DTs X [c] A := pts_one h
/-- one turn: what it gives (some y), or nothing -/
def lcTurn (g : TGD) (A : TF Bool) (Fe : TF D) (ρw : Env) (d : D) (μ : Mu) (N : Option D → Mu → Prop) : Prop := g d ρw fun ρ2 => A ρ2 μ fun b μ2 => if b = true then Fe ρ2 μ2 fun y μ3 => N (some y) μ3 else N none μ2
def dLc (F : TF (List D)) (g : TGD) (A : TF Bool) (Fe : TF D) (vs : List Nat) : TF D := fun ρ μ Q => F ρ μ fun ds μ1 => ∀ p, μ1 p = none → ∃ I : Nat → Mu → Prop, I 0 (μ1.put p (.lst [])) ∧
  (∀ i d μ', ds[i]? = some d → I i μ' → lcTurn g A Fe (wipeE ρ vs) d μ' fun r μ3 => match r with
    | some y => ∃ acc, μ3 p = some (.lst acc) ∧ acc.length ≤ i ∧ I (i + 1) (μ3.put p (.lst (acc ++ [y])))
    | none => I (i + 1) μ3) ∧ ∀ μ', I ds.length μ' → ∃ acc, μ' p = some (.lst acc) ∧ Q (.lst acc) (μ'.del p)
theorem lc_go {K : PySem.W.Frag} {F : TF (List D)} {slots vs : List Nat} {g : TGD} {A : TF Bool} {Fe : TF D} (hs : ∀ j ∈ slots, j ∈ vs) {σ : L2.St} {H : Hp} {Q : VK} (h : tD K (dLc F g A Fe vs) σ H Q) : tLc (tTI K F) (gD K slots g) (tDT K A) (tD K Fe) vs σ H Q := by
  obtain ⟨ρ, μ, Qd, s, f, k⟩ := h
  refine ⟨ρ, μ, _, s, f, fun ds μ1 J H1 gg n1 y p hp => ?_⟩
  have hz := y.1
  have hm := n1.wd.free hp
  obtain ⟨I, i0, step, fin⟩ := gg p hm
  have n0 : Nx K H1 μ1 (upd H1 p (.lst [])) (μ1.put p (.lst [])) := Nx.put n1.wd (fun _ => hp) ⟨[], rfl, .nil, by show 0 ≤ sizeLine; decide⟩
  refine ⟨fun i m H' => m = ds.length - i ∧ i ≤ ds.length ∧ ∃ μ', I i μ' ∧ Nx K H1 μ1 H' μ', ⟨_, rfl, Nat.zero_le _, _, i0, n0⟩, ?_⟩
  rintro i m H' ⟨rfl, hi, μ', hI, n'⟩
  obtain ⟨y1, y2⟩ := y.2 H' μ' n' i
  by_cases hlt : i < ds.length
  · obtain ⟨go, yl⟩ := y2 ds[i] (by simp [hlt])
    refine .inr ⟨go, fun H2 => ∃ μ2, I (i + 1) μ2 ∧ Nx K H1 μ1 H2 μ2, fun H2 ⟨μ2, a, b⟩ => ⟨_, by omega, rfl, hlt, μ2, a, b⟩, fun x H2 hx => ?_⟩
    obtain ⟨n2, r2⟩ := yl x H2 hx
    have s2 : StOk K H2 μ' (wipe σ vs) (wipeE ρ vs) := by
      have q := (s.next n1).next (n'.trans n2)
      exact ⟨renv_wipe q.env vs, q.wd⟩
    refine ⟨wipeE ρ vs, μ', ds[i], _, s2, r2, step i ds[i] μ' (by simp [hlt]) hI, fun ρ3 σ3 hb s3 hl hj => ⟨wipe_same hl hj hs, ?_⟩⟩
    refine Lift.go (F := A) (R := RB) s3 hb fun b μ4 v H4 g4 s4 n4 e4 => ?_
    cases (show v = b from e4)
    have nn := (n'.trans n2).trans n4
    cases b with
    | true =>
      rw [if_pos rfl]
      refine Lift.go s4 g4 fun yd μ5 yv H5 ⟨acc, ha, hl5, hI5⟩ s5 n5 r5 => ?_
      obtain ⟨xs, e5, ra, za⟩ := s5.wd p _ ha
      refine ⟨xs, e5, by rw [ra.length]; omega, _, hI5, (nn.trans n5).trans (Nx.put s5.wd (fun z => by rw [ha] at z; cases z) ⟨_, rfl, ra.append (.cons r5 .nil), by rw [List.length_append, List.length_singleton]; omega⟩)⟩
    | false =>
      rw [if_neg Bool.false_ne_true]
      exact ⟨μ4, g4, nn⟩
  · have e : i = ds.length := by omega
    subst e
    refine .inl ⟨y1 (Nat.le_refl _), ?_⟩
    obtain ⟨acc, ha, q⟩ := fin μ' hI
    obtain ⟨n6, r6⟩ := Nx.frz n'.wd ha
    exact k _ _ _ H' q ((n1.trans n').trans n6) r6
section
variable {X : Cx} {elt tg iter : Expr} {ifs : List Expr} {scope : Scope} {own : List (Str × Nat)} {pos : Pos} {F : TF (List D)} {slots : List Nat} {g : TGD} {A : TF Bool} {Fe : TF D}
theorem de_lc (own : List (Str × Nat)) (hc : X.calm = true) (hN : X.N.Nodup) (hi : DI X tg iter F) (ok : BlkOk X.N X.env.scope scope own)
    (hg : ∀ (s : Shared) (H : Hp) (C : Addr) (cl : List (Str × Addr)) (fp : List Addr), DG (X.blk s H scope (compEnvC scope cl C X.env) fp) tg slots g) (ht : ∀ (s : Shared) (H : Hp) (C : Addr) (cl : List (Str × Addr)) (fp : List Addr), DTs (X.blk s H scope (compEnvC scope cl C X.env) fp) ifs A)
    (he : ∀ (s : Shared) (H : Hp) (C : Addr) (cl : List (Str × Addr)) (fp : List Addr), DE (X.blk s H scope (compEnvC scope cl C X.env) fp) elt Fe) (hsl : ∀ j ∈ slots, j ∈ own.map (·.2) := by decide) (hs : ∀ x, foldedSetIterable iter X.env x = pure x := by intro _; rfl) :
    DE X (.ListComp elt [⟨tg, iter, ifs, 0⟩] scope pos) (dLc F g A Fe (own.map (·.2))) := weakE (pe_lc hc hN hi ok hg ht he hs) fun σ H Q h => lc_go hsl h
theorem ds_setLc (i : Nat) (own : List (Str × Nat)) {y : Str} {py spos : Pos} (hc : X.calm = true) (hN : X.N.Nodup) (hsw : swapsWith (.ListComp elt [⟨tg, iter, ifs, 0⟩] scope pos) (some (.Name y py)) spos.line X.env = pure true) (hi : DI X tg iter F) (ok : BlkOk X.N X.env.scope scope own)
    (hg : ∀ (s : Shared) (H : Hp) (C : Addr) (cl : List (Str × Addr)) (fp : List Addr), DG (X.blk s H scope (compEnvC scope cl C X.env) fp) tg slots g) (ht : ∀ (s : Shared) (H : Hp) (C : Addr) (cl : List (Str × Addr)) (fp : List Addr), DTs (X.blk s H scope (compEnvC scope cl C X.env) fp) ifs A)
    (he : ∀ (s : Shared) (H : Hp) (C : Addr) (cl : List (Str × Addr)) (fp : List Addr), DE (X.blk s H scope (compEnvC scope cl C X.env) fp) elt Fe) (hsl : ∀ j ∈ slots, j ∈ own.map (·.2) := by decide) (hy : X.N[i]? = some y := by rfl) (hyl : X.env.scope.names.lookup y = some .local := by rfl) (hs : ∀ x, foldedSetIterable iter X.env x = pure x := by intro _; rfl) :
    DS X (.Assign [.Name y py] (.ListComp elt [⟨tg, iter, ifs, 0⟩] scope pos) spos) (sSet i (dLc F g A Fe (own.map (·.2)))) :=
  weakS (ps_setLc hc hN hy hyl hsw hi ok hg ht he hs) fun D' σ H ⟨ρ, μ, E, s, f, c⟩ => lc_go (Q := fun x H1 => D'.nx (σ.set i (some x)) H1) hsl ⟨ρ, μ, _, s, f, fun d μ1 v H1 g1 n1 r1 => c.nx _ μ1 _ H1 g1 ((s.next n1).set r1 i) n1⟩
end

/-! ### lists that change -/
section
variable {X : Cx} {pos apos : Pos} {o e : Expr} {Fo Fe : TF D}
def sApp (Fo Fe : TF D) : TSD := fun E ρ μ => Fo ρ μ fun x μ1 => ∃ p ds', x = .ptr p ∧ μ1 p = some (.lst ds') ∧ Fe ρ μ1 fun y μ2 => ∃ ds, μ2 p = some (.lst ds) ∧ ds.length < sizeLine ∧ E.nx ρ (μ2.put p (.lst (ds ++ [y])))
theorem ds_app {cpos : Pos} (ho : DE X o Fo) (he : DE X e Fe) (hbase : attributeBase o "append" X.env (eval o X.env) = eval o X.env := by rfl)
    (hfew : ((backTo cpos (starEach [e] X.env)).all (fun x => !x.1) && (backToKw cpos (keywordEach [] X.env)).all (fun x => x.1.isSome)
      && decide (([e] : List Expr).length + ([] : List Keyword).length + (if ([] : List Keyword).isEmpty then 0 else 1) < 30)) = true := by rfl)
    (hline : (apos.endLine == cpos.line) = true := by rfl) (hs : starEach [e] X.env = (false, eval e X.env) :: starEach [] X.env := by rfl) (hplain : (backTo cpos (starEach [] X.env)).any (·.1) = false := by rfl)
    (hsw : swapsWith (.Call (.Attribute o "append" apos) [e] [] cpos) none pos.line X.env = pure false := by rfl) : DS X (.Expr (.Call (.Attribute o "append" apos) [e] [] cpos) pos) (sApp Fo Fe) :=
  weakS (ps_expr (pe_bm PySem.F.plainAttrs_list PySem.F.slot_list_append PySem.F.type_list_append mt_append ho (pa_cons he pa_nil hs) hbase hfew hline hs hplain) hsw) fun D' σ H ⟨ρ, μ, E, s, f, c⟩ =>
    Lift.go (F := Fo) s f fun x μ1 v H1 ⟨p, ds', ex, hp1, g1⟩ s1 n1 r1 => by
      subst ex
      cases r1
      obtain ⟨xs', e1, _, _⟩ := s1.wd p _ hp1
      refine ⟨.inl ⟨rfl, _, SqL.of e1⟩, Lift.go (F := Fe) s1 g1 fun y μ2 vy H2 ⟨ds, hp2, hl, g2⟩ s2 n2 r2 => ?_⟩
      obtain ⟨xs, e2, ra, za⟩ := s2.wd p _ hp2
      have n3 : Nx X.K H2 μ2 (upd H2 p (.lst (xs ++ [vy]))) (μ2.put p (.lst (ds ++ [y]))) := Nx.put s2.wd (fun z => by rw [hp2] at z; cases z) ⟨_, rfl, ra.append (.cons r2 .nil), by rw [List.length_append, List.length_singleton]; omega⟩
      exact ⟨p, xs, vy, rfl, rfl, e2, by rw [ra.length]; exact hl, c.nx ρ _ σ _ g2 (s2.next n3) ((n1.trans n2).trans n3)⟩
/-- o[i] = e, o a list that changes -/
def sSetIx (Fo Fi Fe : TF D) : TSD := fun E ρ μ => Fe ρ μ fun y μ1 => Fo ρ μ1 fun x μ2 => Fi ρ μ2 fun i μ3 => ∃ p ds j k, x = .ptr p ∧ i = .int j ∧ μ3 p = some (.lst ds) ∧ ixN ds.length j = some k ∧ E.nx ρ (μ3.put p (.lst (ds.set k y)))
theorem ds_setIx {i : Expr} {Fi : TF D} {spos : Pos} (ho : DE X o Fo) (hi : DE X i Fi) (he : DE X e Fe)
    (ha : ∀ v, assign (.Subscript o i pos) X.env v = (do
      let ov ← holding [v] (eval o X.env)
      let iv ← holding [v, ov] (eval i X.env)
      standAt pos
      holding [v, ov, iv] (setItem ov iv v)
      release [v, ov, iv] []) := by intro _; rfl)
    (hs : swapsWithSole [.Subscript o i pos] e spos.line X.env = pure false := by rfl) (hw : swappedStores [.Subscript o i pos] e X.env = pure none := by rfl)
    (h1 : (assignEach [.Subscript o i pos] X.env).map (·.2) = [assign (.Subscript o i pos) X.env] := by rfl) : DS X (.Assign [.Subscript o i pos] e spos) (sSetIx Fo Fi Fe) :=
  weakS (ps_asg he (pg_sub ho hi set_list ha) hs hw h1) fun D' σ H ⟨ρ, μ, E, s, f, c⟩ =>
    Lift.go (F := Fe) s f fun y μ1 vy H1 g1 s1 n1 r1 => Lift.go (F := Fo) s1 g1 fun x μ2 vx H2 g2 s2 n2 r2 => Lift.go (F := Fi) s2 g2 fun i μ3 vi H3 ⟨p, ds, j, k, ex, ei, hp, hk, g3⟩ s3 n3 r3 => by
      subst ex; subst ei
      cases r2; cases r3
      obtain ⟨xs, e3, ra, za⟩ := s3.wd p _ hp
      have n4 : Nx X.K H3 μ3 (upd H3 p (.lst (xs.set k vy))) (μ3.put p (.lst (ds.set k y))) := Nx.put s3.wd (fun z => by rw [hp] at z; cases z) ⟨_, rfl, ra.set (r1.mono (n2.trans n3).ext) k, by rw [List.length_set]; exact za⟩
      exact ⟨p, xs, j, k, rfl, rfl, e3, by rw [ra.length]; exact hk, c.nx ρ _ σ _ g3 (s3.next n4) (((n1.trans n2).trans n3).trans n4)⟩
/-- name += e, ints -/
def sAugI (i : Nat) (Fe : TF D) (h : Int → Int → Int) : TSD := fun E ρ μ => ∃ a, ρ[i]? = some (some (.int a)) ∧ Fe ρ μ fun y μ1 => ∃ b, y = .int b ∧ E.nx (ρ.set i (some (.int (h a b)))) μ1
theorem ds_augI (i : Nat) {x : Str} {op : Operator} {h : Int → Int → Int} {pos' : Pos} (hN : X.N.Nodup) (he : DE X e Fe) (ho : PIp X op (ipI h)) (hi : X.N[i]? = some x := by rfl) (hx : Loc X.env.scope x := by first | exact Or.inl rfl | exact Or.inr rfl) (hf : X.fn x = true ∨ X.env.scope.names.lookup x = some .local := by first | exact .inl rfl | exact .inr rfl | assumption) :
    DS X (.AugAssign (.Name x pos') op e pos) (sAugI i Fe h) :=
  weakS (ps_aug hN hi hx he ho hf) fun D' σ H ⟨ρ, μ, E, s, ⟨a, ea, f⟩, c⟩ => by
    obtain ⟨v, hv, rv⟩ := s.env.2 i _ ea
    cases rv
    refine ⟨_, hv, Lift.go (F := Fe) s f fun y μ1 vy H1 ⟨b, eb, g1⟩ s1 n1 r1 => ?_⟩
    subst eb
    cases r1
    exact ⟨a, b, rfl, rfl, c.nx _ μ1 _ H1 g1 (s1.set (.int _) i) n1⟩
end
end DL
end

-- part DL5
section
namespace DL
open PySem L2
section
variable {K : PySem.W.Frag}
def fSub : F2 := fII (fun _ _ => True) fun i j => .int (i - j)
def fFdiv : F2 := fII CDiv fun i j => .int (i / j)
def fMod : F2 := fII (fun _ j => 0 < j) fun i j => .int (i % j)
def fPow : F2 := fII CPow fun i j => .int (i ^ j.toNat)
def fShl : F2 := fII CPow fun i j => .int (i * 2 ^ j.toNat)
def fShr : F2 := fII (fun _ j => 0 ≤ j) fun i j => .int (i / 2 ^ j.toNat)
def fAnd : F2 := fII (fun _ _ => True) fun i j => .int (Builtin.bitAnd i j)
theorem od_sub : OpD K (rI0 fun i j => V.int (i - j)) fSub := od_ii0 fun _ _ _ => .int _
theorem od_fdiv : OpD K (rI CDiv fun i j => V.int (i / j)) fFdiv := od_ii fun _ _ _ => .int _
theorem od_mod : OpD K (rI (fun _ j => 0 < j) fun i j => V.int (i % j)) fMod := od_ii fun _ _ _ => .int _
theorem od_pow : OpD K (rI CPow fun i j => V.int (i ^ j.toNat)) fPow := od_ii fun _ _ _ => .int _
theorem od_shl : OpD K (rI CPow fun i j => V.int (i * 2 ^ j.toNat)) fShl := od_ii fun _ _ _ => .int _
theorem od_shr : OpD K (rI (fun _ j => 0 ≤ j) fun i j => V.int (i / 2 ^ j.toNat)) fShr := od_ii fun _ _ _ => .int _
theorem od_and : OpD K (rI0 fun i j => V.int (Builtin.bitAnd i j)) fAnd := od_ii0 fun _ _ _ => .int _
theorem od_lt : OpD K (fun x y H Q => (rI0 fun i j => .bl (decide (i < j))) x y H Q ∨ (∃ i j, x = V.str i ∧ y = V.str j ∧ Q (.bl (decide (i.cps.toList < j.cps.toList))) H)) fLt := od_cmp
theorem od_le : OpD K (fun x y H Q => (rI0 fun i j => .bl (decide (i ≤ j))) x y H Q ∨ (∃ i j, x = V.str i ∧ y = V.str j ∧ Q (.bl (!decide (j.cps.toList < i.cps.toList))) H)) fLe := od_cmp
theorem od_gt : OpD K (fun x y H Q => (rI0 fun i j => .bl (decide (j < i))) x y H Q ∨ (∃ i j, x = V.str i ∧ y = V.str j ∧ Q (.bl (decide (j.cps.toList < i.cps.toList))) H)) fGt := od_cmp
theorem od_ge : OpD K (fun x y H Q => (rI0 fun i j => .bl (decide (j ≤ i))) x y H Q ∨ (∃ i j, x = V.str i ∧ y = V.str j ∧ Q (.bl (!decide (i.cps.toList < j.cps.toList))) H)) fGe := od_cmp
end

/-! ### a dict whose keys are tuples -/
def dNewT : TF D := fun _ μ Q => ∀ p, μ p = none → Q (.ptr p) (μ.put p (.dT []))
theorem de_dT {X : Cx} {pos : Pos} : DE X (.Dict [] [] pos) dNewT :=
  weakE pe_dnewT fun σ H Q ⟨ρ, μ, Qd, s, hf, k⟩ p hp => by
    have n : Nx X.K H μ (upd H p (.dT [])) (μ.put p (.dT [])) := Nx.put s.wd (fun _ => hp) ⟨[], rfl, .nil⟩
    exact k _ _ _ _ (hf p (s.wd.free hp)) n (.ptr p)
def tSetdT (td ty tx : TE) : TE := fun σ H Q => td σ H fun x H1 => ∃ a, x = .ref a ∧ IsD H1 a ∧ ty σ H1 fun y H2 => tx σ H2 fun z H3 => ∃ (kvs : List (List Key × V)) (k : List Key) (b : Addr), H3 a = some (.dT kvs) ∧ y = .ref b ∧ H3 b = some (.tup (k.map kV)) ∧ kvs.length < sizeLine ∧
  (∀ v, valV kvs k = some v → Q v H3) ∧ (valV kvs k = none → Q z (upd H3 a (.dT (putK kvs k z))))
theorem setdT_at {X : Cx} {pins : List (Addr × Obj)} {σ : L2.St} {H : Hp} {s : Shared} {a b : Addr} {r : Value} {d : V} {k : List Key} {A : Around} {E : Value → Shared → Prop} {kvs : List (List Key × V)} {Q : Value → Shared → Prop} (hu : A.units + 1 < cLine) (I : Inv X pins σ H s) (e : H a = some (.dT kvs)) (eb : H b = some (.tup (k.map kV))) (rd : RelV d r) (hl : kvs.length < sizeLine)
    (h1 : ∀ v, valV kvs k = some v → ∀ (w' : Value) (s' : Shared), Inv X pins σ H s' → RelV v w' → Q w' s') (h2 : valV kvs k = none → ∀ (w' : Value) (s' : Shared), Inv X pins σ (upd H a (.dT (putK kvs k d))) s' → RelV d w' → Q w' s') :
    wpAny (model X.prog X.w) A (call (.builtin "dict.setdefault") [.ref a, .ref b, r]) Q E s := by
  obtain ⟨z, hd, xs, rel, dd⟩ := dt_of I.hok e
  have hz : xs.length ≤ sizeLine := by rw [← Paired.length rel]; exact z
  have hv := rel.val k
  refine PySem.call_setdefault_heap (hsz := hz) (PySem.tupleKind_room_in1 hu) (key_of I.hok eb) hd dd (fun p hp => ?_) fun hn h' dd' hs => ?_
  · rw [hp] at hv
    cases q0 : valV kvs k with
    | none => rw [q0] at hv; exact False.elim hv
    | some v0 => rw [q0] at hv; exact h1 v0 q0 _ _ (I.tok _) hv
  · rw [hn] at hv
    cases q0 : valV kvs k with
    | some v0 => rw [q0] at hv; exact False.elim hv
    | none =>
      have hl2 : (putK kvs k d).length ≤ sizeLine := Nat.le_trans (length_putK kvs k d) hl
      obtain ⟨q, es, ep, hq, g2, g3, g4, _, g5⟩ := dd'
      refine h2 q0 _ _ (d_write I (by rw [e]; exact True.intro) hs ⟨q, hq⟩ ⟨hl2, hd, _, (rel.put k eb rd).keeps fun c ys ec => ?_, q, es, ep, hq, g2, g3, g4, g5⟩) rd
      rw [upd_ne (ne_of ec e (fun z => nomatch z))]
      exact ec
theorem pe_setdT {X : Cx} {o e f : Expr} {td ty tx : TE} {apos cpos : Pos} (hu : X.A.units + 1 < cLine) (ho : PE X o td) (he : PE X e ty) (hf : PE X f tx) (m : M2 X o "setdefault" apos e f cpos) : PE X (.Call (.Attribute o "setdefault" apos) [e, f] [] cpos) (tSetdT td ty tx) := by
  refine ⟨fun pins s σ H Q I h => ?_⟩
  refine PySem.wpAny_Call_method m.base m.few m.line PySem.F.plainAttrs_dict PySem.F.slot_dict_setdefault PySem.F.type_dict_setdefault (thn (ho.run pins s σ H _ I h) fun u s1 ⟨x, H1, I1, rx, a, ex, d, q1⟩ => ?_)
  subst ex
  cases (show u = Value.ref a from rx)
  obtain ⟨t1, t2, _⟩ := isD_at I1 d
  refine ⟨t1, t2, ?_⟩
  rw [m.trees]
  refine PySem.Calls.callWith_builtin rfl (PySem.Calls.evalArgs_plain (PySem.Calls.spliced_cons (thn (he.run pins s1 σ H1 _ I1 q1) fun iv s2 ⟨y, H2, I2, ry, q2⟩ =>
    PySem.Calls.spliced_cons (thn (hf.run pins s2 σ H2 _ I2 q2) fun fv s3 ⟨z, H3, I3, rz, kvs, k, b, ea, ey, eb, hl, q3, q4⟩ => PySem.Calls.spliced_nil ?_))))
  subst ey
  cases (show iv = Value.ref b from ry)
  exact setdT_at hu I3 ea eb rz hl (fun v hv w' s4 I4 rw' => ⟨v, _, I4, rw', q3 v hv⟩) fun hn w' s4 I4 rw' => ⟨z, _, I4, rw', q4 hn⟩
/-- a key as data -/
def keyD : D → Option Key
  | .int i => some (.inl i)
  | .str s => some (.inr s)
  | _ => none
def keysD : List D → Option (List Key)
  | [] => some []
  | d :: ds => match keyD d, keysD ds with
    | some k, some ks => some (k :: ks)
    | _, _ => none
theorem keys_of {K : PySem.W.Frag} {G : Hp} : ∀ {vs : List V} {ds : List D} {ks : List Key}, RpAll K G vs ds → keysD ds = some ks → vs = ks.map kV
  | _, _, _, .nil, h => by cases h; rfl
  | _, _, ks, .cons (v := v) (d := d) (ds := ds) r t, h => by
    unfold keysD at h
    cases q : keyD d with
    | none => rw [q] at h; cases h
    | some k =>
      cases q2 : keysD ds with
      | none => rw [q, q2] at h; cases h
      | some js =>
        rw [q, q2] at h; cases h
        rw [keys_of t q2, List.map_cons]
        cases r <;> simp only [keyD] at q <;> cases q <;> rfl
def lookD {κ : Type} [DecidableEq κ] (kvs : List (κ × D)) (k : κ) : Option D := (kvs.find? fun kv => decide (kv.1 = k)).map (·.2)
theorem lookD_of {κ : Type} [DecidableEq κ] {K : PySem.W.Frag} {G : Hp} {k : κ} : ∀ {gs : List (κ × V)} {kvs : List (κ × D)}, Paired (fun (p : κ × V) (q : κ × D) => p.1 = q.1 ∧ Rp K G p.2 q.2) gs kvs →
    (∀ d, lookD kvs k = some d → ∃ v, valV gs k = some v ∧ Rp K G v d) ∧ (lookD kvs k = none → valV gs k = none) ∧ gs.length = kvs.length
  | _, _, .nil => ⟨fun d h => by simp [lookD] at h, fun _ => rfl, rfl⟩
  | _, _, .cons (a := p) (b := q) h t => by
    obtain ⟨i1, i2, i3⟩ := lookD_of (k := k) t
    obtain ⟨h1, h2⟩ := h
    by_cases e : q.1 = k
    · refine ⟨fun d hd => ⟨p.2, valV_pos (h1.trans e), ?_⟩, fun hn => ?_, by simp [i3]⟩
      · have : q.2 = d := by simpa [lookD, List.find?_cons, e] using hd
        rw [← this]; exact h2
      · simp [lookD, List.find?_cons, e] at hn
    · have e' : ¬ p.1 = k := fun z => e (h1.symm.trans z)
      refine ⟨fun d hd => ?_, fun hn => ?_, by simp [i3]⟩
      · rw [valV_neg e']
        exact i1 d (by simpa [lookD, List.find?_cons, e] using hd)
      · rw [valV_neg e']
        exact i2 (by simpa [lookD, List.find?_cons, e] using hn)
theorem paired_snoc {α β : Type} {F : α → β → Prop} : ∀ {l : List α} {m : List β} {a : α} {b : β}, Paired F l m → F a b → Paired F (l ++ [a]) (m ++ [b])
  | _, _, _, _, .nil, h => .cons h .nil
  | _, _, _, _, .cons r t, h => .cons r (paired_snoc t h)
/-- d.setdefault(k, x), k a tuple: what stands there, or x laid at the end -/
def dSetdT (Fd Fy Fx : TF D) : TF D := fun ρ μ Q => Fd ρ μ fun x μ1 => ∃ p kvs', x = .ptr p ∧ μ1 p = some (.dT kvs') ∧ Fy ρ μ1 fun y μ2 => Fx ρ μ2 fun z μ3 => ∃ kvs ds ks, μ3 p = some (.dT kvs) ∧ y = .tup ds ∧ keysD ds = some ks ∧ kvs.length < sizeLine ∧
  match lookD kvs ks with
  | some d => Q d μ3
  | none => Q z (μ3.put p (.dT (kvs ++ [(ks, z)])))
theorem de_setd {X : Cx} {k : Nat} (hr : Room k X.A) {o e f : Expr} {apos cpos : Pos} {Fd Fy Fx : TF D} (ho : DE X o Fd) (he : DE X e Fy) (hf : DE X f Fx) (m : M2 X o "setdefault" apos e f cpos := by exact ⟨rfl, rfl, rfl, rfl⟩) :
    DE X (.Call (.Attribute o "setdefault" apos) [e, f] [] cpos) (dSetdT Fd Fy Fx) :=
  weakE (pe_setdT (hu_of hr) ho he hf m) fun σ H Q ⟨ρ, μ, Qd, s, g, kk⟩ => Lift.go (F := Fd) s g fun x μ1 v H1 ⟨p, kvs', ex, hp1, g1⟩ s1 n1 r1 => by
    subst ex
    cases r1
    obtain ⟨gs', e1, _⟩ := s1.wd p _ hp1
    refine ⟨p, rfl, .inr ⟨gs', .inl e1⟩, Lift.go (F := Fy) s1 g1 fun y μ2 vy H2 g2 s2 n2 r2 => Lift.go (F := Fx) s2 g2 fun z μ3 vz H3 ⟨kvs, ds, ks, hp3, ey, hk, hl, g3⟩ s3 n3 r3 => ?_⟩
    subst ey
    obtain ⟨gs, e3, pr⟩ := s3.wd p _ hp3
    have r2' := r2.mono n3.ext
    cases r2' with
    | @tup b xs _ hb ra za =>
      have ek := keys_of ra hk
      subst ek
      obtain ⟨l1, l2, l3⟩ := lookD_of (k := ks) pr
      have nn := (n1.trans n2).trans n3
      refine ⟨gs, ks, b, e3, rfl, hide_in hb, by rw [l3]; exact hl, fun v hv => ?_, fun hv => ?_⟩
      · cases q : lookD kvs ks with
        | none => rw [l2 q] at hv; cases hv
        | some d =>
          rw [q] at g3
          obtain ⟨v', hv', rv⟩ := l1 d q
          rw [hv] at hv'; cases hv'
          exact kk d μ3 v H3 g3 nn rv
      · cases q : lookD kvs ks with
        | some d =>
          obtain ⟨v', hv', rv⟩ := l1 d q
          rw [hv] at hv'; cases hv'
        | none =>
          rw [q] at g3
          have n4 : Nx X.K H3 μ3 (upd H3 p (.dT (putK gs ks vz))) (μ3.put p (.dT (kvs ++ [(ks, z)]))) := Nx.put s3.wd (fun z => by rw [hp3] at z; cases z) ⟨_, rfl, by rw [putK_new _ hv]; exact paired_snoc pr ⟨rfl, r3⟩⟩
          exact kk z _ vz _ g3 (nn.trans n4) (r3.mono n4.ext)

/-! ### max(xs, default=d) of ints -/
def intsD : List D → Option (List Int)
  | [] => some []
  | .int i :: ds => (intsD ds).map (i :: ·)
  | _ :: _ => none
theorem ints_ofD {K : PySem.W.Frag} {G : Hp} : ∀ {vs : List V} {ds : List D} {ns : List Int}, RpAll K G vs ds → intsD ds = some ns → vs = ns.map V.int
  | _, _, _, .nil, h => by cases h; rfl
  | _, _, ns, .cons (ds := ds) r t, h => by
    cases r <;> simp only [intsD] at h <;> try (cases h; done)
    rename_i i
    cases q : intsD ds with
    | none => rw [q] at h; cases h
    | some cs => rw [q] at h; cases h; rw [ints_ofD t q]; rfl
def maxFrom (d : Int) : List Int → Int
  | [] => d
  | n :: ns => ns.foldl max n
def rMaxDf (K : PySem.W.Frag) : List V → List V → Hp → VK → Prop := fun xs zs H Q => ∃ (a : Addr) (ns : List Int) (d : Int), xs = [.ref a] ∧ zs = [.int d] ∧ SqL K H a (ns.map V.int) ∧ Q (.int (maxFrom d ns)) H
theorem reads_ints {h : Heap} : ∀ {us : List Value} {ns : List Int}, PyProof.Rows.IntsAre us ns → ∃ as, ReadsAll h us (ns.map PyData.int) as
  | _, _, .nil => ⟨_, .nil⟩
  | _, _, .cons n t r => let ⟨as, q⟩ := reads_ints r; ⟨_, .cons (.int n t) q⟩
theorem alike_intsD (ns : List Int) : PySem.W.AlikeAll (ns.map PyData.int) := by
  refine ⟨fun x hx y hy => ?_, fun x hx => ?_⟩
  · obtain ⟨i, _, rfl⟩ := List.mem_map.mp hx
    obtain ⟨j, _, rfl⟩ := List.mem_map.mp hy
    rfl
  · obtain ⟨i, _, rfl⟩ := List.mem_map.mp hx
    intro z; cases z
theorem depth_ints : ∀ ns : List Int, PyData.depthAll (ns.map PyData.int) = 0
  | [] => by simp [PyData.depthAll]
  | n :: ns => by simp only [List.map_cons, PyData.depthAll, depth_ints ns, PyData.depth]; rfl
theorem cr_maxDf {X : Cx} {k : Nat} (hr : Room k X.A) (hc : X.calm = true) : CallRK X (.builtin "max") [("default" : Str)] (rMaxDf X.K) := by
  intro pins s σ H xs zs us ws Q I rx rz h
  obtain ⟨a, ns, d, rfl, rfl, hs, q⟩ := h
  obtain ⟨u, rfl, ru⟩ := vals1 rx
  obtain ⟨z, rfl, rv⟩ := vals1 rz
  cases ru
  obtain ⟨its, r, hl, _⟩ := I.list hs
  have hi := r.ints
  obtain ⟨as, rd⟩ := reads_ints (h := s.heap) hi
  have hu := hr.units
  show wpAny (model X.prog X.w) X.A (call (.builtin "max") [.ref a] [(Str.ofString "default", z)]) (EP X pins σ Q) X.xe s
  refine PySem.W.max_list_default (I.ok.hd hc) hl.isList (vs := its.toArray) (xs := ns.map PyData.int) (as := as) rd (alike_intsD ns) (by rw [depth_ints]; omega) (fun e h' tk hk => ?_) fun y ys i v h' tk bs e hv hr' hk => ?_
  · have : ns = [] := List.map_eq_nil_iff.mp e
    subst this
    exact ⟨.int d, H, I.kept hk, rv, q⟩
  · cases ns with
    | nil => cases e
    | cons n ns =>
      rw [List.map_cons] at e
      injection e with e1 e2
      subst e1; subst e2
      rw [PySem.W.maxD_ints] at hr'
      obtain ⟨t, rfl⟩ : ∃ t, v = Value.int (ns.foldl max n) t := by
        cases hr'
        exact ⟨_, rfl⟩
      exact ⟨.int _, H, I.kept hk, ⟨t, rfl⟩, q⟩
def dMaxD (F Fd : TF D) : TF D := fun ρ μ Q => F ρ μ fun x μ1 => Fd ρ μ1 fun y μ2 => ∃ ds ns d, x = .lst ds ∧ intsD ds = some ns ∧ y = .int d ∧ Q (.int (maxFrom d ns)) μ2
theorem de_maxD {X : Cx} {k : Nat} (hr : Room k X.A) {e f : Expr} {F Fd : TF D} {p pos kpos : Pos} (hx : X.mg "max" = none) (he : DE X e F) (hf : DE X f Fd) (hg : Gl X "max" := by rfl)
    (hs : starEach [e] X.env = (false, eval e X.env) :: starEach [] X.env := by rfl)
    (h1 : backTo pos (starEach [e] X.env) = (false, eval e X.env) :: backTo pos (starEach [] X.env) := by rfl) (h2 : (backTo pos (starEach [e] X.env)).any (·.1) = false := by rfl)
    (h3 : (backToKw pos (keywordEach [⟨some "default", f, kpos⟩] X.env)).all (·.1.isSome) = true := by rfl) (h4 : (backToKw pos (keywordEach [⟨some "default", f, kpos⟩] X.env)).any (·.1.isNone) = false := by rfl) (h5 : (backToKw pos (keywordEach [⟨some "default", f, kpos⟩] X.env)).filterMap (·.1) = [("default" : Str)] := by rfl) (hc : X.calm = true := by rfl) :
    DE X (.Call (.Name "max" p) [e] [⟨some "default", f, kpos⟩] pos) (dMaxD F Fd) :=
  weakE (pe_callBK (cr_maxDf hr hc) hg hx (by decide +kernel) (pa_cons he pa_nil hs) (pk_cons hf pk_nil) (by decide) (by decide) h1 h2 h3 h4 h5) fun σ H Q ⟨ρ, μ, Qd, s, g, kk⟩ => Lift.go (F := F) s g fun x μ1 v H1 g1 s1 n1 r1 => Lift.go (F := Fd) s1 g1 fun y μ2 u H2 ⟨ds, ns, d, ex, hn, ey, g2⟩ s2 n2 r2 => by
    subst ex; subst ey
    cases r2
    have r1' := r1.mono n2.ext
    cases r1' with
    | lst ha ra za => exact ⟨_, ns, d, rfl, rfl, by rw [← ints_ofD ra hn]; exact SqL.of (hide_in ha), kk _ μ2 _ H2 g2 (n1.trans n2) (.int _)⟩
end DL
end

-- part DL6
section
namespace DL
open PySem L2
/-! ### comprehensions with two fors -/
def lcStep (p : Addr) (J : Nat → Mu → Prop) (j : Nat) (r : Option D) (μ : Mu) : Prop := match r with
  | some y => ∃ acc, μ p = some (.lst acc) ∧ acc.length < sizeLine ∧ J (j + 1) (μ.put p (.lst (acc ++ [y])))
  | none => J (j + 1) μ
def dLc2 (F : TF (List D)) (g : TGD) (A : TF Bool) (F2 : TF (List D)) (g2 : TGD) (A2 : TF Bool) (Fe : TF D) (vs vs1 : List Nat) : TF D := fun ρ μ Q => F ρ μ fun ds μ1 => ∀ p, μ1 p = none → ∃ I : Nat → Mu → Prop, I 0 (μ1.put p (.lst [])) ∧
  (∀ i d μ', ds[i]? = some d → I i μ' → g d (wipeE ρ vs) fun ρ2 => A ρ2 μ' fun b μ2 => if b = true then F2 ρ2 μ2 fun es μ3 => ∃ J : Nat → Mu → Prop, J 0 μ3 ∧
    (∀ j e μ4, es[j]? = some e → J j μ4 → lcTurn g2 A2 Fe (wipeE ρ2 vs1) e μ4 (lcStep p J j)) ∧ ∀ μ4, J es.length μ4 → I (i + 1) μ4 else I (i + 1) μ2) ∧
  ∀ μ', I ds.length μ' → ∃ acc, μ' p = some (.lst acc) ∧ Q (.lst acc) (μ'.del p)
theorem lc2_go {K : PySem.W.Frag} {F F2 : TF (List D)} {slots slots2 vs vs1 : List Nat} {g g2 : TGD} {A A2 : TF Bool} {Fe : TF D} (hs : ∀ j ∈ slots, j ∈ vs) (hs2 : ∀ j ∈ slots2, j ∈ vs1) {σ : L2.St} {H : Hp} {Q : VK} (h : tD K (dLc2 F g A F2 g2 A2 Fe vs vs1) σ H Q) :
    tLc2 (tTI K F) (gD K slots g) (tDT K A) (tTI K F2) (gD K slots2 g2) (tDT K A2) (tD K Fe) vs vs1 σ H Q := by
  obtain ⟨ρ, μ, Qd, s, f, k⟩ := h
  refine ⟨ρ, μ, _, s, f, fun ds μ1 J0 H1 gg n1 y p hp => ?_⟩
  have hm := n1.wd.free hp
  obtain ⟨I, i0, step, fin⟩ := gg p hm
  have n0 : Nx K H1 μ1 (upd H1 p (.lst [])) (μ1.put p (.lst [])) := Nx.put n1.wd (fun _ => hp) ⟨[], rfl, .nil, by show 0 ≤ sizeLine; decide⟩
  refine ⟨fun i m H' => m = ds.length - i ∧ i ≤ ds.length ∧ ∃ μ', I i μ' ∧ Nx K H1 μ1 H' μ', ⟨_, rfl, Nat.zero_le _, _, i0, n0⟩, ?_⟩
  rintro i m H' ⟨rfl, hi, μ', hI, n'⟩
  obtain ⟨y1, y2⟩ := y.2 H' μ' n' i
  by_cases hlt : i < ds.length
  · obtain ⟨go, yl⟩ := y2 ds[i] (by simp [hlt])
    refine .inr ⟨go, fun H2 => ∃ μ2, I (i + 1) μ2 ∧ Nx K H1 μ1 H2 μ2, fun H2 ⟨μ2, a, b⟩ => ⟨_, by omega, rfl, hlt, μ2, a, b⟩, fun x H2 hx => ?_⟩
    obtain ⟨n2, r2⟩ := yl x H2 hx
    have s2 : StOk K H2 μ' (wipe σ vs) (wipeE ρ vs) := by
      have q := (s.next n1).next (n'.trans n2)
      exact ⟨renv_wipe q.env vs, q.wd⟩
    refine ⟨wipeE ρ vs, μ', ds[i], _, s2, r2, step i ds[i] μ' (by simp [hlt]) hI, fun ρ3 σ3 hb s3 hl hj => ⟨wipe_same hl hj hs, ?_⟩⟩
    refine Lift.go (F := A) (R := RB) s3 hb fun b μ4 v H4 g4 s4 n4 e4 => ?_
    cases (show v = b from e4)
    have nn := (n'.trans n2).trans n4
    cases b with
    | false =>
      rw [if_neg Bool.false_ne_true]
      exact ⟨μ4, g4, nn⟩
    | true =>
      rw [if_pos rfl]
      refine ⟨ρ3, μ4, _, s4, g4, fun es μ5 J1 H5 ⟨J, j0, jstep, jfin⟩ n5 z => ?_⟩
      have nn5 := nn.trans n5
      refine ⟨fun j m H6 => m = es.length - j ∧ j ≤ es.length ∧ ∃ μ6, J j μ6 ∧ Nx K H5 μ5 H6 μ6, ⟨_, rfl, Nat.zero_le _, _, j0, Nx.refl n5.wd⟩, ?_⟩
      rintro j m H6 ⟨rfl, hj6, μ6, hJ, n6⟩
      obtain ⟨z1, z2⟩ := z.2 H6 μ6 n6 j
      by_cases hlt2 : j < es.length
      · obtain ⟨go2, yl2⟩ := z2 es[j] (by simp [hlt2])
        refine .inr ⟨go2, fun H7 => ∃ μ7, J (j + 1) μ7 ∧ Nx K H5 μ5 H7 μ7, fun H7 ⟨μ7, a, b⟩ => ⟨_, by omega, rfl, hlt2, μ7, a, b⟩, fun x2 H7 hx2 => ?_⟩
        obtain ⟨n7, r7⟩ := yl2 x2 H7 hx2
        have s7 : StOk K H7 μ6 (wipe σ3 vs1) (wipeE ρ3 vs1) := by
          have q := ((s4.next n5).next n6).next n7
          exact ⟨renv_wipe q.env vs1, q.wd⟩
        refine ⟨wipeE ρ3 vs1, μ6, es[j], _, s7, r7, jstep j es[j] μ6 (by simp [hlt2]) hJ, fun ρ8 σ8 hb8 s8 hl8 hj8 => ⟨wipe_same hl8 hj8 hs2, ?_⟩⟩
        refine Lift.go (F := A2) (R := RB) s8 hb8 fun b8 μ9 v9 H9 g9 s9 n9 e9 => ?_
        cases (show v9 = b8 from e9)
        have n79 := (n6.trans n7).trans n9
        cases b8 with
        | false =>
          rw [if_neg Bool.false_ne_true]
          exact ⟨μ9, g9, n79⟩
        | true =>
          rw [if_pos rfl]
          refine Lift.go (F := Fe) s9 g9 fun yd μa yv Ha ⟨acc, ha, hla, hJa⟩ sa na ra => ?_
          obtain ⟨xs, ea, rx, za⟩ := sa.wd p _ ha
          exact ⟨xs, ea, by rw [rx.length]; exact hla, _, hJa, (n79.trans na).trans (Nx.put sa.wd (fun z => by rw [ha] at z; cases z) ⟨_, rfl, rx.append (.cons ra .nil), by rw [List.length_append, List.length_singleton]; omega⟩)⟩
      · have e : j = es.length := by omega
        subst e
        exact .inl ⟨z1 (Nat.le_refl _), μ6, jfin μ6 hJ, nn5.trans n6⟩
  · have e : i = ds.length := by omega
    subst e
    refine .inl ⟨y1 (Nat.le_refl _), ?_⟩
    obtain ⟨acc, ha, q⟩ := fin μ' hI
    obtain ⟨n6, r6⟩ := Nx.frz n'.wd ha
    exact k _ _ _ H' q ((n1.trans n').trans n6) r6
section
variable {X : Cx} {elt tg iter tg1 iter1 : Expr} {ifs ifs1 : List Expr} {scope : Scope} {own : List (Str × Nat)} {pos : Pos} {F F2 : TF (List D)} {slots slots2 : List Nat} {g g2 : TGD} {A A2 : TF Bool} {Fe : TF D}
theorem de_lc2 (own : List (Str × Nat)) (vs1 : List Nat) (hc : X.calm = true) (hN : X.N.Nodup) (hi : DI X tg iter F) (ok : BlkOk X.N X.env.scope scope own)
    (hg : ∀ (s : Shared) (H : Hp) (C : Addr) (cl : List (Str × Addr)) (fp : List Addr), DG (X.blk s H scope (compEnvC scope cl C X.env) fp) tg slots g) (ht : ∀ (s : Shared) (H : Hp) (C : Addr) (cl : List (Str × Addr)) (fp : List Addr), DTs (X.blk s H scope (compEnvC scope cl C X.env) fp) ifs A)
    (hi1 : ∀ (s : Shared) (H : Hp) (C : Addr) (cl : List (Str × Addr)) (fp : List Addr), DI (X.blk s H scope (compEnvC scope cl C X.env) fp) tg1 iter1 F2)
    (hg1 : ∀ (s : Shared) (H : Hp) (C : Addr) (cl : List (Str × Addr)) (fp : List Addr), DG (X.blk s H scope (compEnvC scope cl C X.env) fp) tg1 slots2 g2) (ht1 : ∀ (s : Shared) (H : Hp) (C : Addr) (cl : List (Str × Addr)) (fp : List Addr), DTs (X.blk s H scope (compEnvC scope cl C X.env) fp) ifs1 A2)
    (he : ∀ (s : Shared) (H : Hp) (C : Addr) (cl : List (Str × Addr)) (fp : List Addr), DE (X.blk s H scope (compEnvC scope cl C X.env) fp) elt Fe)
    (hv : ∀ i ∈ vs1, i ∈ own.map (·.2) := by decide) (hsl : ∀ j ∈ slots, j ∈ own.map (·.2) := by decide) (hsl2 : ∀ j ∈ slots2, j ∈ vs1 := by decide) (hs : ∀ x, foldedSetIterable iter X.env x = pure x := by intro _; rfl) (hs1 : ∀ env x, foldedSetIterable iter1 env x = pure x := by intro _ _; rfl) :
    DE X (.ListComp elt [⟨tg, iter, ifs, 0⟩, ⟨tg1, iter1, ifs1, 0⟩] scope pos) (dLc2 F g A F2 g2 A2 Fe (own.map (·.2)) vs1) := weakE (pe_lc2 hc hN hi ok hv hg ht hi1 hg1 ht1 he hs hs1) fun σ H Q h => lc2_go hsl hsl2 h
end

/-! ### wishes met: plain evaluation -/
/-- F hands back one of S, and leaves the objects as they are -/
def EvS {β : Type} (F : TF β) (ρ : Env) (μ : Mu) (S : β → Prop) : Prop := ∀ Q : β → Mu → Prop, (∀ d, S d → Q d μ) → F ρ μ Q
/-- one turn that hands back r with S d r, where the new list stands anywhere -/
def TurnS (g : TGD) (A : TF Bool) (Fe : TF D) (ρw : Env) (μ : Mu) (S : D → Option D → Prop) (d : D) : Prop := ∀ (p : Addr) (acc : List D), μ p = none → ∀ N : Option D → Mu → Prop, (∀ r, S d r → N r (μ.put p (.lst acc))) → lcTurn g A Fe ρw d (μ.put p (.lst acc)) N
inductive All2 {α β : Type} (R : α → β → Prop) : List α → List β → Prop
  | nil : All2 R [] []
  | cons {a b l m} : R a b → All2 R l m → All2 R (a :: l) (b :: m)
theorem All2.snoc {α β : Type} {R : α → β → Prop} : ∀ {l : List α} {m : List β} {a : α} {b : β}, All2 R l m → R a b → All2 R (l ++ [a]) (m ++ [b])
  | _, _, _, _, .nil, h => .cons h .nil
  | _, _, _, _, .cons r t, h => .cons r (All2.snoc t h)
theorem All2.len {α β : Type} {R : α → β → Prop} : ∀ {l : List α} {m : List β}, All2 R l m → l.length = m.length
  | _, _, .nil => rfl
  | _, _, .cons _ t => by simp [All2.len t]
/-- a comprehension by its turns -/
theorem lc_by {F : TF (List D)} {g : TGD} {A : TF Bool} {Fe : TF D} {vs : List Nat} {ρ : Env} {μ : Mu} {Q : D → Mu → Prop} {ds : List D} (S : D → Option D → Prop) (hF : ∀ R : List D → Mu → Prop, R ds μ → F ρ μ R)
    (ht : ∀ d ∈ ds, TurnS g A Fe (wipeE ρ vs) μ S d) (hQ : ∀ rs, All2 S ds rs → Q (.lst (rs.filterMap id)) μ) : dLc F g A Fe vs ρ μ Q := by
  refine hF _ (fun p hp => ⟨fun i μ' => ∃ rs, All2 S (ds.take i) rs ∧ (rs.filterMap id).length ≤ i ∧ μ' = μ.put p (.lst (rs.filterMap id)), ⟨[], by simpa using All2.nil, by simp, rfl⟩, fun i d μ' hd ⟨rs, h1, h2, h3⟩ => ?_, fun μ' ⟨rs, h1, h2, h3⟩ => ?_⟩)
  · subst h3
    refine ht d (List.mem_of_getElem? hd) p _ hp _ fun r hr => ?_
    have e : ds.take (i + 1) = ds.take i ++ [d] := by rw [List.take_add_one, hd]; rfl
    cases r with
    | none => exact ⟨rs ++ [none], by rw [e]; exact h1.snoc hr, by simp [List.filterMap_append]; omega, by simp [List.filterMap_append]⟩
    | some y => exact ⟨_, Mu.put_same, h2, rs ++ [some y], by rw [e]; exact h1.snoc hr, by simp [List.filterMap_append]; omega, by rw [Mu.put_put]; simp [List.filterMap_append]⟩
  · subst h3
    refine ⟨_, Mu.put_same, ?_⟩
    rw [Mu.put_del hp]
    exact hQ rs (by rw [List.take_length] at h1; exact h1)
theorem all2_fun {α β : Type} {f : α → β} : ∀ {l : List α} {m : List β}, All2 (fun a b => b = f a) l m → m = l.map f
  | _, _, .nil => rfl
  | _, _, .cons r t => by rw [List.map_cons, r, all2_fun t]
/-- each turn gives h of the item -/
theorem lc_map {F : TF (List D)} {g : TGD} {A : TF Bool} {Fe : TF D} {vs : List Nat} {ρ : Env} {μ : Mu} {Q : D → Mu → Prop} {ds : List D} (h : D → D) (hF : ∀ R : List D → Mu → Prop, R ds μ → F ρ μ R)
    (ht : ∀ d ∈ ds, TurnS g A Fe (wipeE ρ vs) μ (fun d r => r = some (h d)) d) (hQ : Q (.lst (ds.map h)) μ) : dLc F g A Fe vs ρ μ Q :=
  lc_by (fun d r => r = some (h d)) hF ht fun rs hr => by
    rw [all2_fun hr, List.filterMap_map]
    have : (id ∘ fun d => some (h d)) = fun d => some (h d) := rfl
    rw [this, List.filterMap_eq_map']
    exact hQ
/-- each turn gives h of the item where f says so -/
theorem lc_fmap {F : TF (List D)} {g : TGD} {A : TF Bool} {Fe : TF D} {vs : List Nat} {ρ : Env} {μ : Mu} {Q : D → Mu → Prop} {ds : List D} (h : D → Option D) (hF : ∀ R : List D → Mu → Prop, R ds μ → F ρ μ R)
    (ht : ∀ d ∈ ds, TurnS g A Fe (wipeE ρ vs) μ (fun d r => r = h d) d) (hQ : Q (.lst (ds.filterMap h)) μ) : dLc F g A Fe vs ρ μ Q :=
  lc_by (fun d r => r = h d) hF ht fun rs hr => by
    rw [all2_fun hr, List.filterMap_map]
    exact hQ
/-- a loop by its turns, the invariant upon the part passed -/
theorem for_by {F : TF (List D)} {g : TGD} {body : TSD} {E : EndsD} {ρ : Env} {μ : Mu} {ds : List D} (I : List D → Env → Mu → Prop) (hF : ∀ R : List D → Mu → Prop, R ds μ → F ρ μ R) (h0 : I [] ρ μ)
    (ht : ∀ (pre : List D) (d : D) (post : List D) ρ' μ', ds = pre ++ d :: post → I pre ρ' μ' → g d ρ' fun ρ2 => body { E with nx := I (pre ++ [d]), ct := I (pre ++ [d]), bk := E.nx } ρ2 μ') (hd : ∀ ρ' μ', I ds ρ' μ' → E.nx ρ' μ') : sFor F g body E ρ μ := by
  refine hF _ ⟨fun i ρ' μ' => I (ds.take i) ρ' μ', by simpa using h0, fun i d ρ' μ' hi hI => ?_, fun ρ' μ' hI => hd ρ' μ' (by have h : I (ds.take ds.length) ρ' μ' := hI; rw [List.take_length] at h; exact h)⟩
  have e : ds.take (i + 1) = ds.take i ++ [d] := by rw [List.take_add_one, hi]; rfl
  have hl := (List.getElem?_eq_some_iff.mp hi).1
  have e2 : ds = ds.take i ++ d :: ds.drop (i + 1) := by
    have h1 := (List.getElem?_eq_some_iff.mp hi).2
    have := List.take_append_drop i ds
    rw [List.drop_eq_getElem_cons hl, h1] at this
    exact this.symm
  show g d ρ' fun ρ2 => body { E with nx := I (ds.take (i + 1)), ct := I (ds.take (i + 1)), bk := E.nx } ρ2 μ'
  rw [e]
  exact ht (ds.take i) d (ds.drop (i + 1)) ρ' μ' e2 hI
end DL
end

-- part DL7
section
namespace DL
open PySem L2
/-! ### places of written lists -/
section
variable {α : Type} {a b c d e : α} {l : List α}
theorem at0 : atI (a :: l) 0 = some a := by
  unfold atI ixN
  rw [if_pos (by omega), if_pos (by simp only [List.length_cons]; omega)]
  rfl
theorem at1 : atI (a :: b :: l) 1 = some b := by
  unfold atI ixN
  rw [if_pos (by omega), if_pos (by simp only [List.length_cons]; omega)]
  rfl
theorem at2 : atI (a :: b :: c :: l) 2 = some c := by
  unfold atI ixN
  rw [if_pos (by omega), if_pos (by simp only [List.length_cons]; omega)]
  rfl
theorem at3 : atI (a :: b :: c :: d :: l) 3 = some d := by
  unfold atI ixN
  rw [if_pos (by omega), if_pos (by simp only [List.length_cons]; omega)]
  rfl
theorem at4 : atI (a :: b :: c :: d :: e :: l) 4 = some e := by
  unfold atI ixN
  rw [if_pos (by omega), if_pos (by simp only [List.length_cons]; omega)]
  rfl
theorem atI_map {β : Type} (f : α → β) (l : List α) (i : Int) : atI (l.map f) i = (atI l i).map f := by
  unfold atI
  rw [List.length_map]
  cases ixN l.length i with
  | none => rfl
  | some j => simp
theorem atI_in {l : List α} {i : Int} (h0 : 0 ≤ i) (h1 : i < l.length) : ∃ x, atI l i = some x ∧ l[i.toNat]? = some x := by
  have hj : i.toNat < l.length := by omega
  have hx : l[i.toNat]? = some l[i.toNat] := by simp [hj]
  refine ⟨_, ?_, hx⟩
  have h := atI_nat hx
  rw [show ((i.toNat : Nat) : Int) = i by omega] at h
  exact h
theorem atI_back {l : List α} {x : α} : atI (l ++ [x]) (-1) = some x := atI_last l x
end
theorem sz_small {n : Nat} (h : n ≤ 10000) : n ≤ sizeLine := Nat.le_trans h (by decide)
theorem sz_small' {n : Nat} (h : n < 10000) : n < sizeLine := Nat.lt_of_lt_of_le h (by decide)
theorem plains_map {α : Type} {n : Nat} {f : α → D} (l : List α) (h : ∀ a ∈ l, plain n (f a) = true) : plains n (l.map f) = true := by
  induction l with
  | nil => rfl
  | cons a l ih =>
    simp only [List.map_cons, plains, Bool.and_eq_true]
    exact ⟨h a (by simp), ih fun b hb => h b (by simp [hb])⟩
theorem plain_mono : ∀ {n m : Nat} {d : D}, n ≤ m → plain n d = true → plain m d = true
  | n, m, .non, _, _ => by cases m <;> rfl
  | n, m, .bl _, _, _ => by cases m <;> rfl
  | n, m, .int _, _, _ => by cases m <;> rfl
  | n, m, .str _, _, _ => by cases m <;> rfl
  | n, m, .ptr _, _, p => by cases n <;> simp [plain] at p
  | n, m, .scr _, _, p => by cases n <;> simp [plain] at p
  | n, m, .ty _, _, p => by cases n <;> simp [plain] at p
  | n, m, .tup ds, h, p => by
    cases n with
    | zero => simp [plain] at p
    | succ n =>
      cases m with
      | zero => omega
      | succ m =>
        simp only [plain] at p ⊢
        exact go ds (by omega) p
  | n, m, .lst ds, h, p => by
    cases n with
    | zero => simp [plain] at p
    | succ n =>
      cases m with
      | zero => omega
      | succ m =>
        simp only [plain] at p ⊢
        exact go ds (by omega) p
where
  go : ∀ {n m : Nat} (ds : List D), n ≤ m → plains n ds = true → plains m ds = true
  | _, _, [], _, _ => by simp [plains]
  | n, m, d :: ds, h, p => by
    simp only [plains, Bool.and_eq_true] at p ⊢
    exact ⟨plain_mono h p.1, go ds h p.2⟩
theorem eqvDs_map {α : Type} {f : α → D} (he : ∀ a b, eqvD (f a) (f b) = true ↔ a = b) : ∀ l m : List α, eqvDs (l.map f) (m.map f) = true ↔ l = m
  | [], [] => by simp [eqvDs]
  | [], b :: m => by simp [eqvDs]
  | a :: l, [] => by simp [eqvDs]
  | a :: l, b :: m => by
    simp only [List.map_cons, eqvDs, Bool.and_eq_true, he, eqvDs_map he l m, List.cons.injEq]
theorem eqvDs_dec {α : Type} [DecidableEq α] {f : α → D} (he : ∀ a b, eqvD (f a) (f b) = true ↔ a = b) (l m : List α) : eqvDs (l.map f) (m.map f) = decide (l = m) := by
  rw [Bool.eq_iff_iff, eqvDs_map he, decide_eq_true_eq]
theorem eqv_str (a b : Str) : eqvD (.str a) (.str b) = true ↔ a = b := by simp [eqvD]
theorem eqv_int (a b : Int) : eqvD (.int a) (.int b) = true ↔ a = b := by simp [eqvD]
theorem any_str (ks : List Str) (k : Str) : ((ks.map D.str).any fun e => eqvD e (.str k)) = decide (k ∈ ks) := by
  rw [Bool.eq_iff_iff, List.any_eq_true, decide_eq_true_eq]
  constructor
  · rintro ⟨e, he, h⟩
    obtain ⟨j, hj, rfl⟩ := List.mem_map.mp he
    have := (eqv_str j k).mp h
    rw [← this]; exact hj
  · intro h
    exact ⟨.str k, List.mem_map.mpr ⟨k, h, rfl⟩, (eqv_str k k).mpr rfl⟩
theorem flat_strs (ks : List Str) : (ks.map D.str).all flatD = true := by
  rw [List.all_eq_true]
  intro x hx
  obtain ⟨j, hj, rfl⟩ := List.mem_map.mp hx
  rfl
theorem bls_map {α : Type} (f : α → Bool) : ∀ l : List α, bls (l.map fun a => D.bl (f a)) = some (l.map f)
  | [] => rfl
  | a :: l => by rw [List.map_cons, bls, bls_map f l]; rfl
theorem ints_map {α : Type} (f : α → Int) : ∀ l : List α, intsD (l.map fun a => D.int (f a)) = some (l.map f)
  | [] => rfl
  | a :: l => by rw [List.map_cons, intsD, ints_map f l]; rfl
theorem set_none {α : Type} {l : List α} {i : Nat} {x : α} : (l.set i x)[i]? = if i < l.length then some x else none := by
  by_cases h : i < l.length
  · rw [List.getElem?_set_self h, if_pos h]
  · rw [List.getElem?_eq_none (by simpa using h), if_neg h]

/-! ### what the wishes say of known data -/
section
variable {μ : Mu} {P : D → Prop} {i j : Int} {b : Bool} {x y : D} {ds es : List D} {s t : Str} {p : Addr} {lo hi : Option Int}
theorem ix_l : fIx μ (.lst ds) (.int i) P = ∃ d, atI ds i = some d ∧ P d := rfl
theorem ix_t : fIx μ (.tup ds) (.int i) P = ∃ d, atI ds i = some d ∧ P d := rfl
theorem ix_s : fIx μ (.str s) (.int i) P = ∃ c, atI s.cps.toList i = some c ∧ P (.str ⟨#[c]⟩) := rfl
theorem ix_p : fIx μ (.ptr p) (.int i) P = ∃ ds d, μ p = some (.lst ds) ∧ atI ds i = some d ∧ P d := rfl
theorem add_i : fAdd μ (.int i) (.int j) P = P (.int (i + j)) := rfl
theorem add_s : fAdd μ (.str s) (.str t) P = (s.length + t.length ≤ sizeLine ∧ P (.str (s ++ t))) := rfl
theorem add_l : fAdd μ (.lst ds) (.lst es) P = (ds.length + es.length ≤ sizeLine ∧ P (.lst (ds ++ es))) := rfl
theorem add_t : fAdd μ (.tup ds) (.tup es) P = (ds.length + es.length ≤ sizeLine ∧ P (.tup (ds ++ es))) := rfl
theorem mul_i : fMul μ (.int i) (.int j) P = (CMul i j ∧ P (.int (i * j))) := rfl
theorem mul_b : fMul μ (.int i) (.bl b) P = P (.int (i * b2I b)) := rfl
theorem sub_i : fSub μ (.int i) (.int j) P = P (.int (i - j)) := by simp [fSub, fII]
theorem fdiv_i : fFdiv μ (.int i) (.int j) P = (CDiv i j ∧ P (.int (i / j))) := rfl
theorem mod_i : fMod μ (.int i) (.int j) P = (0 < j ∧ P (.int (i % j))) := rfl
theorem pow_i : fPow μ (.int i) (.int j) P = (CPow i j ∧ P (.int (i ^ j.toNat))) := rfl
theorem shl_i : fShl μ (.int i) (.int j) P = (CPow i j ∧ P (.int (i * 2 ^ j.toNat))) := rfl
theorem shr_i : fShr μ (.int i) (.int j) P = (0 ≤ j ∧ P (.int (i / 2 ^ j.toNat))) := rfl
theorem and_i : fAnd μ (.int i) (.int j) P = P (.int (Builtin.bitAnd i j)) := by simp [fAnd, fII]
theorem lt_i : fLt μ (.int i) (.int j) P = P (.bl (decide (i < j))) := rfl
theorem le_i : fLe μ (.int i) (.int j) P = P (.bl (decide (i ≤ j))) := rfl
theorem gt_i : fGt μ (.int i) (.int j) P = P (.bl (decide (j < i))) := rfl
theorem ge_i : fGe μ (.int i) (.int j) P = P (.bl (decide (j ≤ i))) := rfl
theorem le_s : fLe μ (.str s) (.str t) P = P (.bl (!decide (t.cps.toList < s.cps.toList))) := rfl
theorem in_t {neg : Bool} : fIn neg μ (.str s) (.tup ds) P = (ds.all flatD = true ∧ P (.bl (neg ^^ ds.any fun e => eqvD e (.str s)))) := by simp [fIn, flatD]
theorem in_l {neg : Bool} : fIn neg μ (.str s) (.lst ds) P = (ds.all flatD = true ∧ P (.bl (neg ^^ ds.any fun e => eqvD e (.str s)))) := by simp [fIn, flatD]
theorem in_s {neg : Bool} : fIn neg μ (.str s) (.str t) P = P (.bl (neg ^^ (!(Builtin.Str.occurrences t s 0 t.length 1).isEmpty))) := rfl
theorem len_l : fLen μ [.lst ds] P = P (.int ds.length) := rfl
theorem len_t : fLen μ [.tup ds] P = P (.int ds.length) := rfl
theorem len_s : fLen μ [.str s] P = P (.int s.length) := rfl
theorem len_p : fLen μ [.ptr p] P = ∃ a, μ p = some (.lst a) ∧ P (.int a.length) := rfl
theorem list_l : fList μ [.lst ds] P = P (.lst ds) := rfl
theorem list_t : fList μ [.tup ds] P = P (.lst ds) := rfl
theorem list_s {ns : List Int} : fList μ [.scr ns] P = (ns.length ≤ sizeLine ∧ P (.lst (ns.map D.int))) := rfl
theorem list_p : fList μ [.ptr p] P = ∃ a, μ p = some (.lst a) ∧ P (.lst a) := rfl
theorem tuple_l : fTuple μ [.lst ds] P = P (.tup ds) := rfl
theorem tuple_t : fTuple μ [.tup ds] P = P (.tup ds) := rfl
theorem int_i : fInt μ [.int i] P = P (.int i) := rfl
theorem int_b : fInt μ [.bl b] P = P (.int (if b then 1 else 0)) := rfl
theorem abs_i : fAbs μ [.int i] P = P (.int (absI i)) := rfl
theorem max_i : fMax2 μ [.int i, .int j] P = P (.int (maxI i j)) := rfl
theorem min_i : fMin2 μ [.int i, .int j] P = P (.int (minI i j)) := rfl
theorem all_l : fAll μ [.lst ds] P = ∃ bs, bls ds = some bs ∧ P (.bl (bs.all id)) := rfl
theorem any_l : fAny μ [.lst ds] P = ∃ bs, bls ds = some bs ∧ P (.bl (bs.any id)) := rfl
theorem isi_1 {n : String} : fIsi μ [x, .ty n] P = ∃ t, tyD x = some t ∧ okTy n = true ∧ P (.bl (isA t n)) := rfl
theorem isi_n {ts : List D} : fIsi μ [x, .tup ts] P = ∃ t ns, tyD x = some t ∧ inTys ts = some ns ∧ ns.all okTy = true ∧ P (.bl (ns.any (isA t))) := rfl
theorem sl_l : fSl (.lst ds) lo hi P = P (.lst (cutD ds lo hi)) := rfl
theorem sl_t : fSl (.tup ds) lo hi P = P (.tup (cutD ds lo hi)) := rfl
theorem sl_s : fSl (.str s) lo hi P = P (.str (cutS s lo hi)) := rfl
theorem neg_i : fNeg (.int i) P = P (.int (-i)) := rfl
theorem isN_i : fIsN μ x y P = (y = .non ∧ P (.bl (isN x))) := rfl
theorem notN_i : fNotN μ x y P = (y = .non ∧ P (.bl (!isN x))) := rfl
theorem eq_x : fEq μ x y P = (plain 16 x = true ∧ plain 16 y = true ∧ P (.bl (eqvD x y))) := rfl
theorem ne_x : fNe μ x y P = (plain 16 x = true ∧ plain 16 y = true ∧ P (.bl (!eqvD x y))) := rfl
end
section
variable {μ : Mu} {ρ : Env} {Q : List D → Mu → Prop} {ds : List D} {F : TF D} {i j : Int}
theorem seq_l (hF : ∀ R : D → Mu → Prop, R (.lst ds) μ → F ρ μ R) : ∀ R : List D → Mu → Prop, R ds μ → iSeq F ρ μ R := fun R h => hF _ h
theorem seq_t (hF : ∀ R : D → Mu → Prop, R (.tup ds) μ → F ρ μ R) : ∀ R : List D → Mu → Prop, R ds μ → iSeq F ρ μ R := fun R h => hF _ h
theorem rg1 {A : TF (List D)} (hi : smI i) (hF : ∀ R : List D → Mu → Prop, R [.int i] μ → A ρ μ R) : ∀ R : List D → Mu → Prop, R (rngD 0 i.toNat) μ → iRg1 A ρ μ R := fun R h => hF _ ⟨hi, h⟩
theorem rg2 {A : TF (List D)} (hi : smI i) (hj : smI j) (hF : ∀ R : List D → Mu → Prop, R [.int i, .int j] μ → A ρ μ R) : ∀ R : List D → Mu → Prop, R (rngD i (j - i).toNat) μ → iRg2 A ρ μ R := fun R h => hF _ ⟨hi, hj, h⟩
end
theorem z0 : (0 ≤ sizeLine) = True := eq_true (by decide)
theorem z1 : (1 ≤ sizeLine) = True := eq_true (by decide)
theorem z2 : (2 ≤ sizeLine) = True := eq_true (by decide)
theorem z3 : (3 ≤ sizeLine) = True := eq_true (by decide)
theorem z4 : (4 ≤ sizeLine) = True := eq_true (by decide)
theorem z5 : (5 ≤ sizeLine) = True := eq_true (by decide)
theorem z6 : (6 ≤ sizeLine) = True := eq_true (by decide)
theorem z12 : (12 ≤ sizeLine) = True := eq_true (by decide)
end DL
end

-- part DLS
section
/-! sorted(set(texts)): the set as a payload of texts, its walk, its order. -/
namespace DL
open PySem L2
def SortedS (ys : List Str) : Prop := ys.Pairwise fun a b => a.cps.toList < b.cps.toList
end DL
namespace TS
open PySem PySem.Spec PyProof.Rows PySem.Froz L2

def txt (e : Int × Value) : Str := match e.2 with | .str x _ => x | _ => Str.empty
/-- the payload holds the texts l, and can be walked -/
structure Tx (w : World) (D : SD) (l : List Str) : Prop where
  each : ∀ e ∈ D.1.toList, ∃ k u, e = (hashStr w k, Value.str k u)
  perm : (D.1.toList.map txt).Perm l
  ris : Ris D.2.2.place.toList
  led : w.params.followText "set-order" = true ∨ D.2.2.led = true
theorem Tx.grow {w : World} {D : SD} {l : List Str} (F : Tx w D l) (k : Str) (u : Tok) : Tx w (addTx (hashStr w k) (.str k u) D) (k :: l) := by
  obtain ⟨es, ep, t⟩ := D
  obtain ⟨f1, f2, f3, f4⟩ := F
  have pm := layNew_perm t es (hashStr w k) (.str k u)
  have ri := layNew_ris t es (hashStr w k) (.str k u) f3
  have le := layNew_led t es (hashStr w k) (.str k u)
  unfold addTx
  dsimp only
  generalize layNew t es (hashStr w k) (.str k u) = Z at pm ri le ⊢
  obtain ⟨ea, ta, wd, gv⟩ := Z
  dsimp only at pm ri le ⊢
  rw [Array.toList_push] at pm
  have e1 : ∀ e ∈ ea.toList, ∃ k u, e = (hashStr w k, Value.str k u) := fun e he => by
    rcases List.mem_append.mp (pm.mem_iff.mp he) with h | h
    · exact f1 e h
    · exact ⟨k, u, by simpa using h⟩
  have e2 : (ea.toList.map txt).Perm (k :: l) := by
    have h := pm.map txt
    rw [List.map_append] at h
    exact (h.trans (List.perm_append_singleton _ _)).trans (List.Perm.cons k f2)
  have hr : Ris (if ta.plain = true then { ta with plain := false } else ta).place.toList := by split <;> exact ri
  have hl : w.params.followText "set-order" = true ∨ (if ta.plain = true then { ta with plain := false } else ta).led = true := by
    rcases f4 with h | h
    · exact Or.inl h
    · exact Or.inr (by split <;> exact le.trans h)
  generalize (if ta.plain = true then { ta with plain := false } else ta) = tb at hr hl ⊢
  unfold tailTx
  split
  · have p2 := relayAll_perm tb ea (SetTable.grown ea.size)
    exact ⟨fun e he => e1 e (p2.mem_iff.mp he), (p2.map txt).trans e2, relayAll_ris _ _ _, hl.imp id fun h => (relayAll_led tb ea _).trans h⟩
  · exact ⟨e1, e2, hr, hl⟩
section
variable {P : Program} {w : World} {A : Around} {E : Value → Shared → Prop} {s : Shared}
/-- the add of a text that is there -/
theorem add_old {a : Addr} {T : String} {D : SD} {l : List Str} {k : Str} {u : Tok} {Q : Bool → Shared → Prop} (ho : s.heap.get? a = some (sObj T D)) (F : TxOk P w D l) (hk : k ∈ l) (hb : l.length < scanBound) (h : Q false s) :
    wpAny (model P w) A (setAddHashed a (.str k u) (hashStr w k)) Q E s := by
  obtain ⟨es, ep, t⟩ := D
  have hd : (sObj T (es, ep, t)).data = .set es ep t := rfl
  have hfit : t.fits es.size = true := F.fit
  have hels : ElemsOf (strKind P w) es.toList := F.el
  have hsize : es.size = l.length := F.sz
  unfold setAddHashed setAddHashedIn
  refine wpAny_holding (wpAny_bind (wpAny_setState_of ho hd hfit ?_))
  dsimp only
  rw [byScan_of rfl (by omega) hels]
  simp only [↓reduceIte]
  unfold setAddByScan
  refine wpAny_bind (wpAny_bind (wpAny_rule (wpAny_bind (wpAny_setScan_of (knd := strKind P w) (k := k) (is_str k u) ho hd hfit hels ?_))))
  cases hi : es.toList.findIdx? (fun e => (strKind P w).is k e.2) with
  | none =>
    obtain ⟨e, he, q⟩ := (F.mem k).mp hk
    have c := (List.findIdx?_eq_none_iff.mp hi) e he
    rw [q] at c; cases c
  | some j => exact wpAny_pure (wpAny_pure h)
/-- xs's texts, one after another, into the set -/
theorem fill {I : Addr} {fp wr : List Addr} {G : Array GenState → Array GenState → Prop} {n : Nat} {Pv : Nat → Value → Prop} {St : Nat → Shared → Prop} {R : Result → Shared → Prop}
    (W : WalksS P w A.in1 I fp wr G n Pv St) (S : Addr) (hSf : S ∉ fp) (xs : List Str) (hn : n = xs.length) (hb : xs.length + 1 < scanBound) (hv : ∀ i v, Pv i v → ∃ k t, xs[i]? = some k ∧ v = .str k t) :
    ∀ (m i : Nat) (s : Shared) (D : SD) (l : List Str), n - i = m → i ≤ n → St i s → s.heap.get? S = some (sObj "set" D) → TxOk P w D l → Tx w D l → l.Nodup → (∀ k, k ∈ l ↔ k ∈ xs.take i) → l.length ≤ i →
      (∀ s' D' l', Moved (S :: wr) G s s' → s'.heap.get? S = some (sObj "set" D') → TxOk P w D' l' → Tx w D' l' → l'.Nodup → (∀ k, k ∈ l' ↔ k ∈ xs) → l'.length ≤ n → R (.ok (.ret .none)) s') →
      codeAny (model P w) A (.builtin "set.update.loop" ⟨[.ref S, .ref I], []⟩) R s := by
  have nS : S ∉ wr := fun h => hSf (W.sub _ h)
  have up : ∀ b ∈ wr, b ∈ S :: wr := fun b h => List.mem_cons_of_mem _ h
  intro m
  induction m with
  | zero =>
    intro i s D l hm hi hst hS F1 F2 nd hmem hle hR
    have hin : i = n := by omega
    subst hin
    rw [List.take_of_length_le (by omega)] at hmem
    refine codeAny_builtin F.entry_set_update_loop ?_; rw [Around.under_plainId F.plain_set_update_loop _]
    show wpAny _ A.in1 (pyNext (.ref I) >>= _) _ _ s
    exact wpAny_bind (W.done s _ _ hst fun s' mv => wpAny_pure (hR s' D l (mv.mono up) (mv.heap S _ nS hS) F1 F2 nd hmem hle))
  | succ m ih =>
    intro i s D l hm hi hst hS F1 F2 nd hmem hle hR
    have hlt : i < n := by omega
    refine codeAny_builtin F.entry_set_update_loop ?_; rw [Around.under_plainId F.plain_set_update_loop _]
    show wpAny _ A.in1 (pyNext (.ref I) >>= _) _ _ s
    refine wpAny_bind (W.item i s _ _ hlt hst fun v s' hP hst' mv => ?_)
    obtain ⟨z, t, hz, rfl⟩ := hv i v hP
    have hS' := mv.heap S _ nS hS
    have tk1 : xs.take (i + 1) = xs.take i ++ [z] := by rw [List.take_add_one, hz]; rfl
    show wpAny _ A.in1 (holding [Value.str z t] (setAdd S (.str z t)) >>= _) _ _ s'
    unfold setAdd
    refine wpAny_bind (wpAny_holding (wpAny_holding (wpAny_bind ((strKind P w).pyHash (k := z) (is_str z t) ?_))))
    by_cases hk : z ∈ l
    · refine add_old (s := { s' with toks := s'.toks + 1 }) hS' F1 hk (by omega) ?_
      refine wpAny_pure ⟨plainId_quiet F.plain_set_update_loop _, ih (i + 1) _ D l (by omega) hlt (W.frame _ s' _ _ hst' (Nat.le_succ _) fun b _ o e => e) hS' F1 F2 nd (fun k => ?_) (by omega) fun s2 D2 l2 mv2 => ?_⟩
      · rw [tk1, List.mem_append, ← hmem k]
        constructor
        · exact Or.inl
        · rintro (h | h)
          · exact h
          · rw [List.mem_singleton] at h; rw [h]; exact hk
      · exact hR s2 D2 l2 (Moved.trans W.gtrans ((mv.mono up).then_heap (Nat.le_succ _) fun b o _ e => e) mv2)
    · refine add_x (s := { s' with toks := s'.toks + 1 }) hS' F1 hk (by omega) ?_
      have gs := get_upd (sObj "set" (addTx (hashStr w z) (.str z t) D)) hS' rfl
      have go : ∀ b o, b ≠ S → s'.heap.get? b = some o → (s'.heap.update S fun _ => sObj "set" (addTx (hashStr w z) (.str z t) D)).get? b = some o := fun b o hne e => (Heap.get?_update_other _ _ (Ne.symm hne)).trans e
      refine wpAny_pure ⟨plainId_quiet F.plain_set_update_loop _, ih (i + 1) _ _ (z :: l) (by omega) hlt (W.frame _ s' _ _ hst' (Nat.le_succ _) fun b hb o e => go b o (fun h => hSf (h ▸ hb)) e) gs (add_ok t F1) (F2.grow z t) (List.nodup_cons.mpr ⟨hk, nd⟩) (fun k => ?_) (by rw [List.length_cons]; omega) fun s2 D2 l2 mv2 => ?_⟩
      · rw [tk1, List.mem_append, List.mem_cons, hmem k, List.mem_singleton]
        exact Or.comm
      · exact hR s2 D2 l2 (Moved.trans W.gtrans ((mv.mono up).then_heap (Nat.le_succ _) fun b o hb e => go b o (fun h => hb (by rw [h]; exact List.mem_cons_self)) e) mv2)
end
section
variable {P : Program} {w : World} {A : Around} {E : Value → Shared → Prop} {s : Shared}
abbrev emptySet (w : World) : Obj := { cls := .type "set", dict := none, data := .set #[] 0 (.fresh 0 0 (!w.params.followText "set-order")) }
theorem Tx.zero (w : World) : Tx w (#[], 0, .fresh 0 0 (!w.params.followText "set-order")) [] := by
  refine ⟨fun e he => by simp at he, List.Perm.refl _, List.Pairwise.nil, ?_⟩
  cases h : w.params.followText "set-order"
  · exact Or.inr (by rfl)
  · exact Or.inl rfl
/-- what set(xs) leaves at S: all texts of xs, each once; what stood before stands -/
def Filled (P : Program) (w : World) (S : Addr) (xs : List Str) (h h' : Heap) : Prop :=
  ∃ D l, h'.get? S = some (sObj "set" D) ∧ TxOk P w D l ∧ Tx w D l ∧ l.Nodup ∧ (∀ k, k ∈ l ↔ k ∈ xs) ∧ l.length ≤ xs.length ∧ ∀ b o, b ≠ S → h.get? b = some o → h'.get? b = some o
/-- the items of a list of texts, one by one -/
theorem texts_at {items : Array Value} {xs : List Str} (hi : StrsAre items.toList xs) (i : Nat) (v : Value) (e : items[i]? = some v) : ∃ k t, xs[i]? = some k ∧ v = .str k t := by
  have ⟨t, e2⟩ := SS.strs_at hi i v (by rw [Array.getElem?_toList]; exact e)
  have lt : i < xs.length := by
    rw [← StrsAre.len_eq hi, Array.length_toList]
    exact (Array.getElem?_eq_some_iff.mp e).1
  refine ⟨xs[i], t, List.getElem?_eq_getElem lt, ?_⟩
  rw [e2, List.getD_eq_getElem?_getD, List.getElem?_eq_getElem lt]; rfl
/-- an empty set takes in a list of texts -/
theorem takes_texts {id : String} {S q : Addr} {items : Array Value} {xs : List Str} {Q : Unit → Shared → Prop} (hh : A.handled = none) (hS : s.heap.get? S = some (emptySet w)) (hq : s.heap.IsList q items) (hi : StrsAre items.toList xs) (hb : xs.length + 1 < scanBound)
    (h : ∀ h' tk, Filled P w S xs s.heap h' → Q () { s with heap := h', toks := tk }) : wpAny (model P w) A (Builtin.Frozenset.updateFrom id S (.ref q)) Q E s := by
  have size : items.size = xs.length := by rw [← StrsAre.len_eq hi, Array.length_toList]
  have ⟨ol, hol, hcl, n, hdl⟩ := hq
  have tyq : s.TypeIs (.ref q) "list" := ⟨ol, hol, hcl⟩
  have aside : q ≠ S := fun e => by
    have : ol = emptySet w := Option.some.inj (hol.symm.trans (e ▸ hS))
    rw [this] at hcl
    exact absurd (show Value.type "set" = Value.type "list" from hcl) (by decide)
  have notSet := PySem.F.sub_list_set
  have notFrozen := PySem.F.sub_list_frozenset
  have notDict : (Value.type "list" == Value.type "dict") = false := by decide
  unfold Builtin.Frozenset.updateFrom
  generalize hPI : pyIter = PI
  wp_walk
  subst hPI
  -- the iterator, new, and the loop over it
  refine wpAny_pyIter_list hq (wpAny_bind (wpAny_runValue ?_))
  have newIt : q ≠ s.heap.objs.size := Nat.ne_of_lt (Heap.lt_size hol)
  have W : WalksS P w A.in1 s.heap.objs.size [s.heap.objs.size, q] [s.heap.objs.size] _ items.size _ _ := (Walks.list (show A.in1.handled = none from hh) s.heap.objs.size q newIt items).toS
  have off : S ∉ [s.heap.objs.size, q] := by
    have lt := Heap.lt_size hS
    simpa using ⟨Nat.ne_of_lt lt, Ne.symm aside⟩
  refine fill W S off xs size hb (texts_at hi) (items.size - 0) 0 { s with heap := s.heap.push { cls := .type "list_iterator", data := .fields #[.ref q, .int 0 0] } } (#[], 0, .fresh 0 0 (!w.params.followText "set-order")) [] rfl (Nat.zero_le _) ⟨⟨_, Heap.get?_push_size _ rfl, rfl, rfl⟩, hq.push _⟩
    (Heap.get?_push_of_some _ hS) (TxOk.nil rfl) (Tx.zero w) List.nodup_nil (fun k => by simp) (Nat.le_refl _) fun s' D l mv c1 c2 c3 c4 c5 c6 => ?_
  have whole : s' = { s with heap := s'.heap, toks := s'.toks } := by
    have e1 := mv.gens; have e2 := mv.drawn; have e3 := mv.os
    cases s'
    cases e1; cases e2; cases e3
    rfl
  rw [whole]
  refine wpAny_pure (h s'.heap s'.toks ⟨D, l, c1, c2, c3, c4, c5, size ▸ c6, fun b o hb e => mv.heap b o ?_ (Heap.get?_push_of_some _ e)⟩)
  simpa using ⟨hb, Nat.ne_of_lt (Heap.lt_size e)⟩
/-- set(xs) of a list of texts -/
theorem call_set {q : Addr} {items : Array Value} {xs : List Str} {Q : Value → Shared → Prop} (hh : A.handled = none) (hq : s.heap.IsList q items) (hi : StrsAre items.toList xs) (hb : xs.length + 1 < scanBound)
    (h : ∀ (h' : Heap) (tk : Nat) (D : SD) (l : List Str), h'.get? s.heap.objs.size = some (sObj "set" D) → TxOk P w D l → Tx w D l → l.Nodup → (∀ k, k ∈ l ↔ k ∈ xs) → l.length ≤ xs.length →
      (∀ b o, s.heap.get? b = some o → h'.get? b = some o) → Q (.ref s.heap.objs.size) { s with heap := h', toks := tk }) : wpAny (model P w) A (call (.type "set") [.ref q]) Q E s := by
  have ⟨_, _, mro⟩ := F.called_set.mro
  have made := F.called_set.made; have sub := F.called_set.sub; have notType := F.called_set.notType; have creates := F.called_set.canCreate; have counts := F.typeCall_set_1 (.ref q)
  -- type's own call: first __new__, which lays an empty set, then __init__, which fills it
  refine wpAny_call (codeAny_of_tree (show wpAny _ _ (callAny (.type "set") _) _ _ _ from wpAny_pure ⟨Code.quiet_builtin _ (by decide +kernel), codeAny_builtin F.entry_type_call ?_⟩))
  rw [Around.under_plain (weight_type_call_type "set" [.ref q] []) rfl]
  repeat (any_goals (first | assumption | wp_step))
  refine codeAny_mono (code_set_led1 (.ref q) (E := E) (Q₁ := fun obj s₁ => obj = .ref s.heap.objs.size ∧ s₁ = { s with heap := s.heap.push (emptySet w) }) ⟨rfl, rfl⟩) ?_
  rintro (e | obj | _) s₁ hr <;> try exact hr
  obtain ⟨rfl, rfl⟩ := hr
  have new : (s.heap.push (emptySet w)).get? s.heap.objs.size = some (emptySet w) := Heap.get?_push_size _ rfl
  have ty : Shared.TypeIs { s with heap := s.heap.push (emptySet w) } (.ref s.heap.objs.size) "set" := ⟨_, new, rfl⟩
  have look := F.called_set.init.lookup; have bind := F.called_set.init.bind (.ref s.heap.objs.size)
  repeat (any_goals (first | assumption | wp_step))
  refine codeAny_mono (codeAny_call_builtin (R := wants (fun r s₂ => r = .none ∧ ∃ tk, Filled P w s.heap.objs.size xs (s.heap.push (emptySet w)) s₂.heap ∧ s₂ = { s with heap := s₂.heap, toks := tk }) E) F.called_set.init.plain F.entry_set_init (check_set_init_1 ty ?_)) ?_
  · have go : ∀ {Qr : Unit → Shared → Prop} {Er : Value → Shared → Prop}, (∀ h' tk, Filled P w s.heap.objs.size xs (s.heap.push (emptySet w)) h' → Qr () { s with heap := h', toks := tk }) →
        wpAny (model P w) A.in1.in1 (Builtin.Frozenset.updateFrom "set.__init__" s.heap.objs.size (.ref q)) Qr Er { s with heap := s.heap.push (emptySet w) } := fun k =>
      takes_texts (s := { s with heap := s.heap.push (emptySet w) }) (show A.in1.in1.handled = none from hh) new (hq.push _) hi hb k
    unfold Builtin.«set.__init__» noKeywords
    wp_walk using go
    intro h' tk full
    exact wpAny_pure ⟨rfl, tk, full, rfl⟩
  · rintro (e | r | _) s₂ hr <;> try exact hr
    obtain ⟨rfl, tk, ⟨D, l, c1, c2, c3, c4, c5, c6, c7⟩, whole⟩ := hr
    repeat (any_goals (first | assumption | wp_step))
    rw [whole]
    exact h _ tk D l c1 c2 c3 c4 c5 c6 fun b o e => c7 b o (Nat.ne_of_lt (Heap.lt_size e)) (Heap.get?_push_of_some _ e)
end
end TS
end

-- part DLT
section
namespace TS
open PySem PySem.Spec PyProof.Rows PySem.Froz L2
theorem rising_le : ∀ (r : List Str) (p : Str), risingS p r = true → ∀ k ∈ r, ¬ k.cps.toList < p.cps.toList
  | [], _, _, k, hk => by cases hk
  | x :: r, p, h, k, hk => by
    unfold risingS at h
    rw [Bool.and_eq_true] at h
    have h1 : ¬ x.cps.toList < p.cps.toList := by
      intro hl
      have h3 := h.1
      rw [ltCps_eq, decide_eq_true hl] at h3
      cases h3
    rcases List.mem_cons.mp hk with e | hk
    · subst e; exact h1
    · intro hl
      refine rising_le r x h.2 k hk ?_
      rcases Classical.em (p.cps.toList < x.cps.toList) with h2 | h2
      · exact List.lt_trans hl h2
      · have e : p.cps.toList = x.cps.toList := List.le_antisymm (List.not_lt.mp h1) (List.not_lt.mp h2)
        rw [← e]; exact hl
theorem rising_strict : ∀ (ys : List Str), sortedS ys = true → ys.Nodup → DL.SortedS ys
  | [], _, _ => List.Pairwise.nil
  | x :: r, h, nd => by
    obtain ⟨n1, n2⟩ := List.nodup_cons.mp nd
    have h' : risingS x r = true := h
    refine List.pairwise_cons.mpr ⟨fun k hk => ?_, rising_strict r ?_ n2⟩
    · have h1 := rising_le r x h' k hk
      rcases Classical.em (x.cps.toList < k.cps.toList) with h2 | h2
      · exact h2
      · exfalso
        have e : x.cps.toList = k.cps.toList := List.le_antisymm (List.not_lt.mp h1) (List.not_lt.mp h2)
        have e2 : x = k := by
          obtain ⟨a⟩ := x; obtain ⟨b⟩ := k
          simp only at e
          congr 1
          exact Array.toList_inj.mp e
        exact n1 (e2 ▸ hk)
    · cases r with
      | nil => rfl
      | cons y r => unfold risingS at h'; rw [Bool.and_eq_true] at h'; exact h'.2
theorem strs_of_entries {w : World} : ∀ {es : List (Int × Value)}, (∀ e ∈ es, ∃ k u, e = (hashStr w k, Value.str k u)) → StrsAre (es.map (·.2)) (es.map txt)
  | [], _ => .nil
  | e :: es, h => by
    obtain ⟨k, u, rfl⟩ := h e (by simp)
    exact .cons k u (strs_of_entries fun e he => h e (by simp [he]))
theorem strs_perm : ∀ {vs us : List Value}, us.Perm vs → ∀ {ks : List Str}, StrsAre vs ks → ∃ js, StrsAre us js ∧ js.Perm ks := by
  intro vs us p
  induction p with
  | nil => intro ks h; exact ⟨ks, h, List.Perm.refl _⟩
  | cons v p ih =>
    intro ks h
    cases h with
    | cons k u h =>
      obtain ⟨js, h1, h2⟩ := ih h
      exact ⟨k :: js, .cons k u h1, List.Perm.cons k h2⟩
  | swap a b l =>
    intro ks h
    cases h with
    | cons k u h =>
      cases h with
      | cons k2 u2 h => exact ⟨k2 :: k :: _, .cons k2 u2 (.cons k u h), List.Perm.swap _ _ _⟩
  | trans p1 p2 ih1 ih2 =>
    intro ks h
    obtain ⟨js, h1, h2⟩ := ih2 h
    obtain ⟨is, h3, h4⟩ := ih1 h1
    exact ⟨is, h3, h4.trans h2⟩
section
variable {P : Program} {w : World} {A : Around} {E : Value → Shared → Prop} {s : Shared}
theorem sorted_of {a : Addr} {D : SD} {l : List Str} {Q : Value → Shared → Prop} (ho : s.heap.get? a = some (sObj "set" D)) (F : TxOk P w D l) (F2 : Tx w D l) (nd : l.Nodup) (hh : A.handled = none) (h64 : l.length < 64)
    (hQ : ∀ s' p (out : Array Value) (c : Nat) (ys : List Str), (∀ b o, s.heap.get? b = some o → s'.heap.get? b = some o) → s'.gens = s.gens → s'.os = s.os → s.heap.objs.size ≤ p →
      s'.heap.get? p = some (seqObj "list" out c) → StrsAre out.toList ys → DL.SortedS ys → (∀ k, k ∈ ys ↔ k ∈ l) → ys.length = l.length → Q (.ref p) s') : wpAny (model P w) A (call (.builtin "sorted") [.ref a]) Q E s := by
  obtain ⟨es, ep, t⟩ := D
  have hsize : es.size = l.length := F.sz
  have hline : l.length < sizeLine ∧ l.length < scanBound := ⟨Nat.lt_trans h64 (by decide), Nat.lt_trans h64 (by decide)⟩
  refine Calls.call_function_entry kind_sorted plain_sorted entry_sorted (args_sorted1 _) ?_
  unfold Builtin.«sorted»
  refine wpAny_bind (m := checkCount "sorted" 1 1 _) (wpAny_pure (wpAny_bind (collect_set (A := A.in1) (es := es) (ep := ep) (t := t) hh ⟨_, ho, rfl, rfl⟩ F.fit (by rw [hsize]; exact hline.2) F2.ris F2.led fun s1 vs k1 z1 g1 o1 pm => ?_)))
  obtain ⟨ks, hks, pk⟩ := strs_perm pm (strs_of_entries F2.each)
  have pl : ks.Perm l := pk.trans F2.perm
  have hvl : vs.length = l.length := by rw [StrsAre.len_eq hks, pl.length_eq]
  refine wpAny_bind (wpAny_newList ?_ (by rw [hvl]; exact Nat.le_of_lt hline.1))
  have hL : (s1.heap.push (seqObj "list" vs.toArray 0)).get? s1.heap.objs.size = some (seqObj "list" vs.toArray 0) := Heap.get?_push_size _ rfl
  refine wpAny_bind (wpAny_holding (wpAny_call_entry slot_list_sort ⟨_, hL, rfl⟩ entry_list_sort
    (list_sort_treeK strKind_oneLt (s := { s1 with heap := s1.heap.push (seqObj "list" vs.toArray 0) }) hL hks.keysOf (fun _ _ _ e => keyKind_strs (by rw [← e]; exact hks)) (by rw [hvl]; exact h64) fun st' hp hs => ⟨_, rfl, ?_⟩) (args_list_sort _)))
  obtain ⟨ys, y1, y2, y3⟩ := sorted_out_str hks hp hs
  obtain ⟨c, hc⟩ := sortedHeap_at (vs := vs) (out := (arrOf st').map (·.2)) hL
  have py : ys.Perm l := y2.trans pl
  refine wpAny_pure ⟨_, rfl, hQ _ s1.heap.objs.size _ c ys (fun b u e => ?_) g1 o1 z1 hc y1 (rising_strict ys y3 (py.nodup_iff.mpr nd)) (fun k => py.mem_iff) py.length_eq⟩
  have q := k1 b u e
  have lt := Heap.lt_size q
  show (sortedHeap (s1.heap.push (seqObj "list" vs.toArray 0)) s1.heap.objs.size vs _).get? b = some u
  rw [sortedHeap_old (Nat.ne_of_lt lt) (by rw [size_push']; exact Nat.lt_succ_of_lt lt)]
  exact Heap.get?_push_of_some _ q
end
/-- sorted(set(xs)), xs a list of texts -/
def tSS (K : PySem.W.Frag) (ta : TE) : TE := fun σ H Q => ta σ H fun x H1 => ∃ (q : Addr) (xs : List Str), x = .ref q ∧ SqL K H1 q (xs.map V.str) ∧ xs.length < 64 ∧
  ∀ (ys : List Str) (p : Addr), DL.SortedS ys → (∀ k, k ∈ ys ↔ k ∈ xs) → ys.length ≤ xs.length → H1 p = none → Q (.ref p) (upd H1 p (.lst (ys.map V.str)))
section
variable {X : Cx} {a : Expr} {ta : TE} {p p2 q pos : Pos}
theorem laid_at {pins : List (Addr × Obj)} {σ : L2.St} {H : Hp} {s s' : Shared} {b : Addr} {out : Array Value} {c : Nat} {ys : List Str} (I : Inv X pins σ H s) (k : ∀ b o, s.heap.get? b = some o → s'.heap.get? b = some o) (g : s'.gens = s.gens) (o : s'.os = s.os)
    (hp : s.heap.objs.size ≤ b) (hgt : s'.heap.get? b = some (seqObj "list" out c)) (hst : StrsAre out.toList ys) (hz : ys.length ≤ 64) : H b = none ∧ Inv X pins σ (upd H b (.lst (ys.map V.str))) s' := by
  have hlen : (ys.map V.str).length ≤ sizeLine := by rw [List.length_map]; exact Nat.le_trans hz (by decide)
  have hn : H b = none := I.hok.fresh hp
  obtain ⟨hp', g', d', t', o'⟩ := s'
  obtain ⟨hp0, g0, d0, t0, o0⟩ := s
  cases o; cases g
  exact ⟨hn, I.call (ch := []) (Un.laid k hp hn) (I.hok.laid k hp ⟨hlen, out.toList, c, vals_of_strs hst, hgt⟩) I.bare (fun _ z => nomatch z)⟩
theorem pe_sortedSet (hc : X.calm = true) (hg : Gl X "sorted") (hm : X.mg "sorted" = none) (hg2 : Gl X "set") (hm2 : X.mg "set" = none) (ha : PE X a ta) (na : starEach [a] X.env = (false, eval a X.env) :: starEach [] X.env := by rfl) :
    PE X (.Call (.Name "sorted" p) [.Call (.Name "set" p2) [a] [] q] [] pos) (tSS X.K ta) := by
  refine ⟨fun pins s σ H Q I h => ?_⟩
  refine Call_ (ld_blt I hg hm boot_sorted ?_)
  refine callWith_builtin1 (args_cons ?_ rfl) rfl rfl
  refine Call_ (ld_blt I hg2 hm2 boot_set ?_)
  refine callWith_type1 (args_cons (thn (ha.run pins s σ H _ I h) fun v s1 ⟨x, H1, I1, r1, q1⟩ => args_nil ?_) na) na rfl
  obtain ⟨b, xs, rfl, hq, h1, q1⟩ := q1
  cases r1
  obtain ⟨its, r, pl, hz⟩ := I1.list hq
  have hS : StrsAre its xs := strsAre_of r
  refine call_set (P := X.prog) (I1.ok.hd hc) pl.isList (by simpa using hS) (Nat.lt_trans (Nat.succ_lt_succ h1) (by decide)) fun h' tk D l c1 c2 c3 c4 c5 c6 c7 => ?_
  refine args_nil ?_
  have I2 : Inv X pins σ H1 { s1 with heap := h', toks := tk } := I1.kept c7
  refine sorted_of (s := { s1 with heap := h', toks := tk }) c1 c2 c3 c4 (I2.ok.hd hc) (by omega) fun s' p out c ys k g o hp hgt hst hs hm hl => ?_
  obtain ⟨hn, J⟩ := laid_at I2 k g o hp hgt hst (by omega)
  exact ⟨.ref p, _, J, rfl, q1 ys p hs (fun k => (hm k).trans (c5 k)) (by omega) hn⟩
end
end TS
end

-- part DLR
section
/-! t[::-1] of a tuple. -/
namespace RV
open PySem PySem.Spec PyProof.Rows L2 HT
theorem adj_back (n : Nat) : Builtin.Slice.sliceAdjust none none (-1) (n : Int) = ((n : Int) - 1, -1) := by
  unfold Builtin.Slice.sliceAdjust; simp
theorem places_back (n : Nat) : Builtin.Slice.slicePlaces ((n : Int) - 1) (-1) (-1) = n := by
  unfold Builtin.Slice.slicePlaces
  rw [if_neg (by omega), show (-(-1 : Int)) = 1 from rfl, Int.ediv_one]
  split <;> omega
theorem pick_back (xs : Array Value) : ((List.range xs.size).filterMap fun (m : Nat) => xs[((xs.size : Int) - 1 + (m : Int) * (-1)).toNat]?) = xs.toList.reverse := by
  have h1 : ∀ l : List Nat, (∀ m ∈ l, m < xs.size) → (l.filterMap fun (m : Nat) => xs[((xs.size : Int) - 1 + (m : Int) * (-1)).toNat]?) = l.map fun m => xs.toList.reverse.getD m .none := by
    intro l
    induction l with
    | nil => intro _; rfl
    | cons m l ih =>
      intro h
      have hm := h m (by simp)
      have e : ((xs.size : Int) - 1 + (m : Int) * (-1)).toNat = xs.size - 1 - m := by omega
      have e2 : xs[xs.size - 1 - m]? = some (xs[xs.size - 1 - m]'(by omega)) := Array.getElem?_eq_getElem (by omega)
      rw [List.filterMap_cons, e, e2, List.map_cons, ih fun j hj => h j (by simp [hj])]
      congr 1
      rw [List.getD_eq_getElem?_getD, List.getElem?_reverse (by rw [Array.length_toList]; exact hm), Array.length_toList, Array.getElem?_toList, e2]
      rfl
  rw [h1 _ fun m hm => List.mem_range.mp hm]
  apply List.ext_getElem
  · simp
  · intro i a b
    rw [List.getElem_map, List.getElem_range, List.getD_eq_getElem?_getD, List.getElem?_eq_getElem b]
    rfl
section
variable {prog : Program} {w : World} {A : Around} {E : Value → Shared → Prop} {s : Shared}
theorem applied_back {sl : Addr} {vl vu vs : Value} {n : Nat} {Q : Int × Int × Nat → Shared → Prop} (hs : s.heap.IsSliceOf sl vl vu vs) (pl : IsPart vl none) (pu : IsPart vu none) (ps : IsPart vs (some (-1)))
    (h : Q ((n : Int) - 1, -1, n) s) : wpAny (model prog w) A (Builtin.Slice.sliceApplied (.ref sl) (pure (n : Int))) Q E s := by
  obtain ⟨ob, hob, hcb, hdb⟩ := id hs
  unfold Builtin.Slice.sliceApplied Builtin.Slice.sliceFields
  refine wpAny_bind (wpAny_bind (wpAny_field hob hdb (x := vl) rfl (wpAny_bind (wpAny_field hob hdb (x := vu) rfl (wpAny_bind (wpAny_field hob hdb (x := vs) rfl (wpAny_pure ?_)))))))
  refine wpAny_bind (HT.slicePart_ ps ?_)
  show wpAny _ _ (if ((-1 : Int) == 0) = true then _ else _) _ _ s
  rw [if_neg (by decide)]
  refine wpAny_bind (HT.slicePart_ pl (wpAny_bind (HT.slicePart_ pu (wpAny_bind (wpAny_pure ?_)))))
  show wpAny _ _ (match Builtin.Slice.sliceAdjust none none (-1) (n : Int) with | (lo, hi) => pure (lo, (-1 : Int), Builtin.Slice.slicePlaces lo hi (-1))) _ _ s
  rw [adj_back]
  show wpAny _ _ (pure ((n : Int) - 1, (-1 : Int), Builtin.Slice.slicePlaces ((n : Int) - 1) (-1) (-1))) _ _ s
  rw [places_back]
  exact wpAny_pure h
theorem getItem_back {t sl : Addr} {items : Array Value} {vl vu vs : Value} {Q : Value → Shared → Prop} (ht : IsTup s.heap t items) (hs : s.heap.IsSliceOf sl vl vu vs) (pl : IsPart vl none) (pu : IsPart vu none) (ps : IsPart vs (some (-1)))
    (h : Q (.ref s.heap.objs.size) { s with heap := s.heap.push { cls := .type "tuple", data := .seq items.toList.reverse.toArray } }) (hsz : items.size ≤ sizeLine) : wpAny (model prog w) A (getItem (.ref t) (.ref sl)) Q E s := by
  have hok : sizeOk (.seq items.toList.reverse.toArray) := by
    show items.toList.reverse.toArray.size ≤ sizeLine
    rw [List.size_toArray, List.length_reverse, Array.length_toList]; exact hsz
  obtain ⟨ob, hob, hcb, hdb⟩ := id hs
  have hTs : s.TypeIs (.ref sl) "slice" := ⟨ob, hob, hcb⟩
  unfold getItem
  try with_reducible refine wpAny_holding ?_
  first | refine wpAny_bind (wpAny_pure ?_) | skip
  refine wpAny_bind (wpAny_sequenceKey ht.typeIs (by decide) (wpAny_bind (wpAny_callSpecial?_slot (name := Str.ofString "__getitem__") ht.typeIs PyProof.Rows.slot_tuple_getitem
    (wpAny_call_entry PyProof.Rows.slot_tuple_getitem ht.typeIs entry_tuple_getitem ?_ (args_tuple_getitem _ _)))))
  show wpAny _ _ (Builtin.Tuple.tupleItemsOf (.ref t) >>= _) _ _ s
  refine wpAny_bind (tupleItemsOf_ ht (wpAny_bind (wpAny_typeOf hTs ?_)))
  rw [if_pos (by decide)]
  refine wpAny_bind (applied_back hs pl pu ps ?_)
  have hno : ¬ ((((items.size : Int) - 1) == 0 && (-1 : Int) == 1 && items.size == items.size) = true) := by
    rw [show ((-1 : Int) == 1) = false from by decide, Bool.and_false, Bool.false_and]
    exact Bool.false_ne_true
  show wpAny _ _ (if (((items.size : Int) - 1) == 0 && (-1 : Int) == 1 && items.size == items.size) = true then _ else _) _ _ s
  rw [if_neg hno, pick_back]
  first
    | exact wpAny_bind (m := Builtin.Tuple.tupleExact _) (wpAny_newObj_type (wpAny_pure ⟨_, rfl, wpAny_pure h⟩) hok)
    | exact wpAny_bind (m := Builtin.Tuple.tupleExact _) (wpAny_newObj_type (wpAny_bind (wpAny_pure (wpAny_pure ⟨_, rfl, wpAny_pure h⟩))) hok)
    | exact wpAny_bind (wpAny_bind (m := Builtin.Tuple.tupleExact _) (wpAny_newObj_type (wpAny_pure (wpAny_pure ⟨_, rfl, wpAny_pure h⟩)) hok))
    | exact wpAny_bind (wpAny_bind (m := Builtin.Tuple.tupleExact _) (wpAny_newObj_type (wpAny_pure ⟨_, rfl, wpAny_pure h⟩) hok))
end
def tRevT (K : PySem.W.Frag) (te : TE) : TE := fun σ H Q => te σ H fun x H1 => ∃ a xs, x = .ref a ∧ SqT K H1 a xs ∧ ∀ p, H1 p = none → Q (.ref p) (upd H1 p (.tup xs.reverse))
section
variable {X : Cx}
theorem pe_revT {e : Expr} {te : TE} {k : Nat} {p1 p2 p3 pos : Pos} (he : PE X e te) : PE X (.Subscript e (.Slice none none (some (.UnaryOp .USub (.Constant (.int 1) k p1) p2)) p3) pos) (tRevT X.K te) := by
  refine ⟨fun pins s σ H Q I h => Subscript_ (thn (he.run pins s σ H _ I h) fun v s1 ⟨x, H1, I1, r1, q1⟩ => ?_)⟩
  obtain ⟨a, xs, ex, hx, q⟩ := q1
  subst ex
  cases r1
  have hst : PO X (some (.UnaryOp .USub (.Constant (.int 1) k p1) p2)) (tPart (tUn (rU fun i => .int (-i)) (tC (.int 1)))) := po_some (pe_un un_neg pe_int)
  refine wpAny_Slice (thn (po_none.run pins s1 σ H1 (fun o H2 => o = none ∧ H2 = H1) I1 ⟨rfl, rfl⟩) fun vl s2 ⟨o1, H2, I2, pl, e1, e2⟩ => ?_)
  subst e1 e2
  refine thn (po_none.run pins s2 σ H2 (fun o H3 => o = none ∧ H3 = H2) I2 ⟨rfl, rfl⟩) fun vu s3 ⟨o2, H3, I3, pu, e3, e4⟩ => ?_
  subst e3 e4
  refine thn (hst.run pins s3 σ H3 (fun o H4 => o = some (-1) ∧ H4 = H3) I3 ⟨1, rfl, -1, rfl, rfl, rfl⟩) fun vs s4 ⟨o3, H4, I4, ps, e5, e6⟩ => ?_
  subst e5 e6
  have I5 : Inv X pins σ H4 { s4 with heap := s4.heap.push { cls := .type "slice", data := .fields #[vl, vu, vs] } } := I4.kept (t' := s4.toks) fun b ob q => Heap.get?_push_of_some _ q
  obtain ⟨its, r, ht, hz⟩ := I5.tuple hx
  have hlen := r.length
  show wpAny (model X.prog X.w) X.A (subscriptTail e (.Slice none none (some (.UnaryOp .USub (.Constant (.int 1) k p1) p2)) p3) (.ref a) (.ref s4.heap.objs.size)) (EP X pins σ Q) X.xe _
  have hT : Shared.TypeIs { s4 with heap := s4.heap.push { cls := .type "slice", data := .fields #[vl, vu, vs] } } (.ref a) "tuple" := by
    exact ht.typeIs
  refine tail_any (ops := [.ref a, .ref s4.heap.objs.size]) hT (PyProof.Rows.slot_tuple_getitem.lookup) ?_ (by with_unfolding_all rfl)
  refine getItem_back (items := its.toArray) ht (Heap.IsSliceOf.new _ vl vu vs) pl pu ps ?_ (by rw [List.size_toArray]; omega)
  refine ⟨.ref _, _, I5.laid (t' := s4.toks) (o := .tup xs.reverse) (fun b ob q => Heap.get?_push_of_some _ q) (Nat.le_refl _) ?_, rfl, q _ (I5.hok.fresh (Nat.le_refl _))⟩
  exact ⟨by rw [List.length_reverse]; exact hz, _, r.reverse, IsTup.new _ _⟩
end
end RV
end

-- part DL8
section
namespace DL
open PySem L2
theorem dss_never {X : Cx} {sts : List Stmt} : DSs X sts sNever := weakSs pss_never fun D' σ H ⟨ρ, μ, E, s, g, c⟩ => g
def strsD : List D → Option (List Str)
  | [] => some []
  | .str i :: ds => (strsD ds).map (i :: ·)
  | _ :: _ => none
theorem strs_map : ∀ l : List Str, strsD (l.map D.str) = some l
  | [] => rfl
  | a :: l => by rw [List.map_cons, strsD, strs_map l]; rfl
/-- sorted(set(xs)), xs a list of texts -/
def dSortS (F : TF D) : TF D := fun ρ μ Q => F ρ μ fun x μ1 => ∃ ds ks, x = .lst ds ∧ strsD ds = some ks ∧ ks.length < 64 ∧ ∀ ys : List Str, SortedS ys → (∀ k, k ∈ ys ↔ k ∈ ks) → Q (.lst (ys.map .str)) μ1
theorem strs_inv {K : PySem.W.Frag} {G : Hp} : ∀ {ds : List D} {xs : List V} {ks : List Str}, RpAll K G xs ds → strsD ds = some ks → xs = ks.map V.str ∧ ds = ks.map D.str ∧ ∀ k ∈ ks, SOk k
  | [], _, ks, .nil, h => by cases h; exact ⟨rfl, rfl, by simp⟩
  | .str k :: ds, _, ks, .cons (.str _ ok) r, h => by
    unfold strsD at h
    cases q : strsD ds with
    | none => rw [q] at h; cases h
    | some js =>
      rw [q] at h; cases h
      obtain ⟨h1, h2, h3⟩ := strs_inv r q
      refine ⟨by rw [h1]; rfl, by rw [h2]; rfl, fun j hj => ?_⟩
      rcases List.mem_cons.mp hj with e | hj
      · subst e; exact ok
      · exact h3 j hj
theorem rp_strs {K : PySem.W.Frag} {G : Hp} : ∀ {ks : List Str}, (∀ k ∈ ks, SOk k) → RpAll K G (ks.map V.str) (ks.map D.str)
  | [], _ => .nil
  | k :: ks, h => .cons (.str k (h k (by simp))) (rp_strs fun j hj => h j (by simp [hj]))
theorem de_sortedSet {X : Cx} {e : Expr} {F : TF D} {p1 p2 c1 c2 : Pos} (h1 : X.mg "sorted" = none) (h2 : X.mg "set" = none) (he : DE X e F) (hg1 : Gl X "sorted" := by rfl) (hg2 : Gl X "set" := by rfl) (hc : X.calm = true := by rfl)
    (na : starEach [e] X.env = (false, eval e X.env) :: starEach [] X.env := by rfl) :
    DE X (.Call (.Name "sorted" p1) [.Call (.Name "set" p2) [e] [] c2] [] c1) (dSortS F) := by
  refine weakE (TS.pe_sortedSet hc hg1 h1 hg2 h2 he na) fun σ H Q ⟨ρ, μ, Qd, s, f, kk⟩ => Lift.go (F := F) s f fun x μ1 v H1 ⟨ds, ks, ex, hks, hl, g⟩ s1 n1 r1 => ?_
  subst ex
  cases r1 with
  | lst ha ra za =>
    obtain ⟨e1, e2, e3⟩ := strs_inv ra hks
    subst e1; subst e2
    refine ⟨_, ks, rfl, SqL.of (hide_in ha), hl, fun ys p hs hm hlen hp => ?_⟩
    have n2 : Nx X.K H1 μ1 (upd H1 p (.lst (ys.map V.str))) μ1 := Nx.new s1.wd hp
    exact kk _ μ1 _ _ (g ys hs hm) (n1.trans n2) (.lst (new_at (s1.wd.free hp)) (rp_strs fun k hk => e3 k ((hm k).mp hk)) (by rw [List.length_map]; exact Nat.le_trans (by omega : ys.length ≤ 64) (by decide)))
/-- t[::-1], t a tuple -/
def dRev (F : TF D) : TF D := fun ρ μ Q => F ρ μ fun x μ1 => ∃ ds, x = .tup ds ∧ Q (.tup ds.reverse) μ1
theorem RpAll.rev {K : PySem.W.Frag} {G : Hp} : ∀ {vs : List V} {ds : List D}, RpAll K G vs ds → RpAll K G vs.reverse ds.reverse
  | _, _, .nil => .nil
  | _, _, .cons r t => by rw [List.reverse_cons, List.reverse_cons]; exact (RpAll.rev t).append (.cons r .nil)
theorem de_slStep {X : Cx} {e : Expr} {F : TF D} {k : Nat} {p1 p2 p3 pos : Pos} (he : DE X e F) : DE X (.Subscript e (.Slice none none (some (.UnaryOp .USub (.Constant (.int 1) k p1) p2)) p3) pos) (dRev F) := by
  refine weakE (RV.pe_revT he) fun σ H Q ⟨ρ, μ, Qd, s, f, kk⟩ => Lift.go (F := F) s f fun x μ1 v H1 ⟨ds, ex, g⟩ s1 n1 r1 => ?_
  subst ex
  cases r1 with
  | @tup a xs ds ha ra za =>
    refine ⟨a, xs, rfl, SqT.of (hide_in ha), fun p hp => ?_⟩
    have n2 : Nx X.K H1 μ1 (upd H1 p (.tup xs.reverse)) μ1 := Nx.new s1.wd hp
    exact kk _ μ1 _ _ g (n1.trans n2) (.tup (new_at (s1.wd.free hp)) (ra.rev.mono n2.ext) (by rw [List.length_reverse]; exact za))


/-- a comprehension with two fors, by its turns -/
theorem lc2_pure {F : TF (List D)} {g : TGD} {A : TF Bool} {F2 : TF (List D)} {g2 : TGD} {A2 : TF Bool} {Fe : TF D} {vs vs1 : List Nat} {ρ : Env} {μ : Mu} {Q : D → Mu → Prop} {ds : List D} (es : D → List D) (ρ2 : D → Env) (h : D → D → Option D)
    (hF : ∀ R : List D → Mu → Prop, R ds μ → F ρ μ R) (hn : (ds.flatMap es).length < sizeLine)
    (h1 : ∀ d ∈ ds, ∀ p acc, μ p = none → ∀ (X : Env → List D → Mu → Prop) (Y : Mu → Prop), X (ρ2 d) (es d) (μ.put p (.lst acc)) → g d (wipeE ρ vs) fun ρ' => A ρ' (μ.put p (.lst acc)) fun b μ2 => if b = true then F2 ρ' μ2 (X ρ') else Y μ2)
    (h2 : ∀ d ∈ ds, ∀ e ∈ es d, TurnS g2 A2 Fe (wipeE (ρ2 d) vs1) μ (fun e r => r = h d e) e)
    (hQ : Q (.lst (ds.flatMap fun d => (es d).filterMap (h d))) μ) : dLc2 F g A F2 g2 A2 Fe vs vs1 ρ μ Q := by
  refine hF _ fun p hp => ⟨fun i μ' => μ' = μ.put p (.lst ((ds.take i).flatMap fun d => (es d).filterMap (h d))), rfl, fun i d μ' hd e => ?_, fun μ' e => ?_⟩
  · subst e
    have hm := List.mem_of_getElem? hd
    have et : ds.take (i + 1) = ds.take i ++ [d] := by rw [List.take_add_one, hd]; rfl
    refine h1 d hm p _ hp (fun ρ' es' μ3 => ∃ J : Nat → Mu → Prop, J 0 μ3 ∧ (∀ j e μ4, es'[j]? = some e → J j μ4 → lcTurn g2 A2 Fe (wipeE ρ' vs1) e μ4 (lcStep p J j)) ∧ ∀ μ4, J es'.length μ4 → μ4 = μ.put p (.lst ((ds.take (i + 1)).flatMap fun d => (es d).filterMap (h d)))) _ ?_
    refine ⟨fun j μ4 => μ4 = μ.put p (.lst (((ds.take i).flatMap fun d => (es d).filterMap (h d)) ++ ((es d).take j).filterMap (h d))), by simp, fun j e μ4 he e4 => ?_, fun μ4 e4 => ?_⟩
    · subst e4
      have ej : (es d).take (j + 1) = (es d).take j ++ [e] := by rw [List.take_add_one, he]; rfl
      refine h2 d hm e (List.mem_of_getElem? he) p _ hp _ fun r hr => ?_
      subst hr
      cases q : h d e with
      | none =>
        show _ = _
        rw [ej, List.filterMap_append]
        simp [q]
      | some y =>
        refine ⟨_, Mu.put_same, ?_, ?_⟩
        · have l1 : ((ds.take i).flatMap fun d => (es d).filterMap (h d)).length ≤ ((ds.take i).flatMap es).length := by
            rw [List.length_flatMap, List.length_flatMap]
            exact go _
          have l2 : (((es d).take j).filterMap (h d)).length ≤ (es d).length := Nat.le_trans (List.length_filterMap_le _ _) (by rw [List.length_take]; omega)
          have l3 : ((ds.take i).flatMap es).length + (es d).length ≤ (ds.flatMap es).length := by
            have : ((ds.take (i + 1)).flatMap es).length ≤ (ds.flatMap es).length := by
              conv => rhs; rw [← List.take_append_drop (i + 1) ds, List.flatMap_append, List.length_append]
              omega
            rw [et, List.flatMap_append, List.length_append] at this
            simpa using this
          rw [List.length_append]
          omega
        · show _ = _
          rw [Mu.put_put, ej, List.filterMap_append]
          simp [q]
    · subst e4
      rw [List.take_length, et, List.flatMap_append]
      simp
  · subst e
    rw [List.take_length]
    refine ⟨_, Mu.put_same, ?_⟩
    rw [Mu.put_del hp]
    exact hQ
where
  go : ∀ l : List D, (l.map fun d => ((es d).filterMap (h d)).length).sum ≤ (l.map fun d => (es d).length).sum
    | [] => Nat.le_refl _
    | d :: l => by
      simp only [List.map_cons, List.sum_cons]
      have := List.length_filterMap_le (h d) (es d)
      have := go l
      omega
theorem q_ss {a b : Str} : eqvD (.str a) (.str b) = (a == b) := by simp [eqvD]
theorem q_ii {a b : Int} : eqvD (.int a) (.int b) = (a == b) := by simp [eqvD]
theorem q_bb {a b : Bool} : eqvD (.bl a) (.bl b) = (a == b) := by simp [eqvD]
theorem q_nn : eqvD .non .non = true := by simp [eqvD]
theorem q_tt {a b : List D} : eqvD (.tup a) (.tup b) = eqvDs a b := by simp [eqvD]
theorem q_ll {a b : List D} : eqvD (.lst a) (.lst b) = eqvDs a b := by simp [eqvD]
theorem q_si {a : Str} {b : Int} : eqvD (.str a) (.int b) = false := by simp [eqvD]
theorem q_sn {a : Str} : eqvD (.str a) .non = false := by simp [eqvD]
theorem q_st {a : Str} {b : List D} : eqvD (.str a) (.tup b) = false := by simp [eqvD]
theorem q_sl {a : Str} {b : List D} : eqvD (.str a) (.lst b) = false := by simp [eqvD]
theorem q_is {a : Int} {b : Str} : eqvD (.int a) (.str b) = false := by simp [eqvD]
theorem q_in {a : Int} : eqvD (.int a) .non = false := by simp [eqvD]
theorem q_it {a : Int} {b : List D} : eqvD (.int a) (.tup b) = false := by simp [eqvD]
theorem q_il {a : Int} {b : List D} : eqvD (.int a) (.lst b) = false := by simp [eqvD]
theorem q_ns {b : Str} : eqvD .non (.str b) = false := by simp [eqvD]
theorem q_ni {b : Int} : eqvD .non (.int b) = false := by simp [eqvD]
theorem q_nt {b : List D} : eqvD .non (.tup b) = false := by simp [eqvD]
theorem q_nl {b : List D} : eqvD .non (.lst b) = false := by simp [eqvD]
theorem q_ts {a : List D} {b : Str} : eqvD (.tup a) (.str b) = false := by simp [eqvD]
theorem q_ti {a : List D} {b : Int} : eqvD (.tup a) (.int b) = false := by simp [eqvD]
theorem q_tn {a : List D} : eqvD (.tup a) .non = false := by simp [eqvD]
theorem q_tl {a : List D} {b : List D} : eqvD (.tup a) (.lst b) = false := by simp [eqvD]
theorem q_ls {a : List D} {b : Str} : eqvD (.lst a) (.str b) = false := by simp [eqvD]
theorem q_li {a : List D} {b : Int} : eqvD (.lst a) (.int b) = false := by simp [eqvD]
theorem q_ln {a : List D} : eqvD (.lst a) .non = false := by simp [eqvD]
theorem q_lt {a : List D} {b : List D} : eqvD (.lst a) (.tup b) = false := by simp [eqvD]
theorem qs_nil : eqvDs [] [] = true := by simp [eqvDs]
theorem qs_cons {x y : D} {xs ys : List D} : eqvDs (x :: xs) (y :: ys) = (eqvD x y && eqvDs xs ys) := by simp [eqvDs]
theorem qs_nc {y : D} {ys : List D} : eqvDs [] (y :: ys) = false := by simp [eqvDs]
theorem qs_cn {y : D} {ys : List D} : eqvDs (y :: ys) [] = false := by simp [eqvDs]
theorem p_t16 {ds : List D} : plain 16 (.tup ds) = plains 15 ds := by simp [plain]
theorem p_l16 {ds : List D} : plain 16 (.lst ds) = plains 15 ds := by simp [plain]
theorem p_t15 {ds : List D} : plain 15 (.tup ds) = plains 14 ds := by simp [plain]
theorem p_l15 {ds : List D} : plain 15 (.lst ds) = plains 14 ds := by simp [plain]
theorem p_t14 {ds : List D} : plain 14 (.tup ds) = plains 13 ds := by simp [plain]
theorem p_l14 {ds : List D} : plain 14 (.lst ds) = plains 13 ds := by simp [plain]
theorem p_t13 {ds : List D} : plain 13 (.tup ds) = plains 12 ds := by simp [plain]
theorem p_l13 {ds : List D} : plain 13 (.lst ds) = plains 12 ds := by simp [plain]
theorem p_t12 {ds : List D} : plain 12 (.tup ds) = plains 11 ds := by simp [plain]
theorem p_l12 {ds : List D} : plain 12 (.lst ds) = plains 11 ds := by simp [plain]
theorem p_s {n : Nat} {a : Str} : plain n (.str a) = true := by cases n <;> simp [plain]
theorem p_i {n : Nat} {a : Int} : plain n (.int a) = true := by cases n <;> simp [plain]
theorem p_b {n : Nat} {a : Bool} : plain n (.bl a) = true := by cases n <;> simp [plain]
theorem p_n {n : Nat} : plain n .non = true := by cases n <;> simp [plain]
theorem ps_nil {n : Nat} : plains n [] = true := by simp [plains]
theorem ps_cons {n : Nat} {d : D} {ds : List D} : plains n (d :: ds) = (plain n d && plains n ds) := by simp [plains]
theorem t_b {b : Bool} : truD (.bl b) = some b := rfl
theorem t_i {i : Int} : truD (.int i) = some (i != 0) := rfl
theorem t_l {ds : List D} : truD (.lst ds) = some (!ds.isEmpty) := rfl
theorem t_t {ds : List D} : truD (.tup ds) = some (!ds.isEmpty) := rfl
theorem t_n : truD .non = some false := rfl
theorem n_n : isN .non = true := rfl
theorem n_i {i : Int} : isN (.int i) = false := rfl
theorem n_s {i : Str} : isN (.str i) = false := rfl
theorem n_t {i : List D} : isN (.tup i) = false := rfl
theorem n_l {i : List D} : isN (.lst i) = false := rfl
theorem n_b {i : Bool} : isN (.bl i) = false := rfl
theorem f_s {s : Str} : flatD (.str s) = true := rfl
theorem f_i {s : Int} : flatD (.int s) = true := rfl
/-! ### the words of news differ -/
theorem w_wrote_many : ((Str.ofString "wrote" : Str) = Str.ofString "many") = False := eq_false (by decide +kernel)
theorem w_wrote_many_b : ((Str.ofString "wrote" : Str) == Str.ofString "many") = false := by decide +kernel
theorem w_wrote_among : ((Str.ofString "wrote" : Str) = Str.ofString "among") = False := eq_false (by decide +kernel)
theorem w_wrote_among_b : ((Str.ofString "wrote" : Str) == Str.ofString "among") = false := by decide +kernel
theorem w_wrote_did : ((Str.ofString "wrote" : Str) = Str.ofString "did") = False := eq_false (by decide +kernel)
theorem w_wrote_did_b : ((Str.ofString "wrote" : Str) == Str.ofString "did") = false := by decide +kernel
theorem w_wrote_times : ((Str.ofString "wrote" : Str) = Str.ofString "times") = False := eq_false (by decide +kernel)
theorem w_wrote_times_b : ((Str.ofString "wrote" : Str) == Str.ofString "times") = false := by decide +kernel
theorem w_wrote_value : ((Str.ofString "wrote" : Str) = Str.ofString "value") = False := eq_false (by decide +kernel)
theorem w_wrote_value_b : ((Str.ofString "wrote" : Str) == Str.ofString "value") = false := by decide +kernel
theorem w_wrote_head : ((Str.ofString "wrote" : Str) = Str.ofString "head") = False := eq_false (by decide +kernel)
theorem w_wrote_head_b : ((Str.ofString "wrote" : Str) == Str.ofString "head") = false := by decide +kernel
theorem w_many_wrote : ((Str.ofString "many" : Str) = Str.ofString "wrote") = False := eq_false (by decide +kernel)
theorem w_many_wrote_b : ((Str.ofString "many" : Str) == Str.ofString "wrote") = false := by decide +kernel
theorem w_many_among : ((Str.ofString "many" : Str) = Str.ofString "among") = False := eq_false (by decide +kernel)
theorem w_many_among_b : ((Str.ofString "many" : Str) == Str.ofString "among") = false := by decide +kernel
theorem w_many_did : ((Str.ofString "many" : Str) = Str.ofString "did") = False := eq_false (by decide +kernel)
theorem w_many_did_b : ((Str.ofString "many" : Str) == Str.ofString "did") = false := by decide +kernel
theorem w_many_times : ((Str.ofString "many" : Str) = Str.ofString "times") = False := eq_false (by decide +kernel)
theorem w_many_times_b : ((Str.ofString "many" : Str) == Str.ofString "times") = false := by decide +kernel
theorem w_many_value : ((Str.ofString "many" : Str) = Str.ofString "value") = False := eq_false (by decide +kernel)
theorem w_many_value_b : ((Str.ofString "many" : Str) == Str.ofString "value") = false := by decide +kernel
theorem w_many_head : ((Str.ofString "many" : Str) = Str.ofString "head") = False := eq_false (by decide +kernel)
theorem w_many_head_b : ((Str.ofString "many" : Str) == Str.ofString "head") = false := by decide +kernel
theorem w_among_wrote : ((Str.ofString "among" : Str) = Str.ofString "wrote") = False := eq_false (by decide +kernel)
theorem w_among_wrote_b : ((Str.ofString "among" : Str) == Str.ofString "wrote") = false := by decide +kernel
theorem w_among_many : ((Str.ofString "among" : Str) = Str.ofString "many") = False := eq_false (by decide +kernel)
theorem w_among_many_b : ((Str.ofString "among" : Str) == Str.ofString "many") = false := by decide +kernel
theorem w_among_did : ((Str.ofString "among" : Str) = Str.ofString "did") = False := eq_false (by decide +kernel)
theorem w_among_did_b : ((Str.ofString "among" : Str) == Str.ofString "did") = false := by decide +kernel
theorem w_among_times : ((Str.ofString "among" : Str) = Str.ofString "times") = False := eq_false (by decide +kernel)
theorem w_among_times_b : ((Str.ofString "among" : Str) == Str.ofString "times") = false := by decide +kernel
theorem w_among_value : ((Str.ofString "among" : Str) = Str.ofString "value") = False := eq_false (by decide +kernel)
theorem w_among_value_b : ((Str.ofString "among" : Str) == Str.ofString "value") = false := by decide +kernel
theorem w_among_head : ((Str.ofString "among" : Str) = Str.ofString "head") = False := eq_false (by decide +kernel)
theorem w_among_head_b : ((Str.ofString "among" : Str) == Str.ofString "head") = false := by decide +kernel
theorem w_did_wrote : ((Str.ofString "did" : Str) = Str.ofString "wrote") = False := eq_false (by decide +kernel)
theorem w_did_wrote_b : ((Str.ofString "did" : Str) == Str.ofString "wrote") = false := by decide +kernel
theorem w_did_many : ((Str.ofString "did" : Str) = Str.ofString "many") = False := eq_false (by decide +kernel)
theorem w_did_many_b : ((Str.ofString "did" : Str) == Str.ofString "many") = false := by decide +kernel
theorem w_did_among : ((Str.ofString "did" : Str) = Str.ofString "among") = False := eq_false (by decide +kernel)
theorem w_did_among_b : ((Str.ofString "did" : Str) == Str.ofString "among") = false := by decide +kernel
theorem w_did_times : ((Str.ofString "did" : Str) = Str.ofString "times") = False := eq_false (by decide +kernel)
theorem w_did_times_b : ((Str.ofString "did" : Str) == Str.ofString "times") = false := by decide +kernel
theorem w_did_value : ((Str.ofString "did" : Str) = Str.ofString "value") = False := eq_false (by decide +kernel)
theorem w_did_value_b : ((Str.ofString "did" : Str) == Str.ofString "value") = false := by decide +kernel
theorem w_did_head : ((Str.ofString "did" : Str) = Str.ofString "head") = False := eq_false (by decide +kernel)
theorem w_did_head_b : ((Str.ofString "did" : Str) == Str.ofString "head") = false := by decide +kernel
theorem w_times_wrote : ((Str.ofString "times" : Str) = Str.ofString "wrote") = False := eq_false (by decide +kernel)
theorem w_times_wrote_b : ((Str.ofString "times" : Str) == Str.ofString "wrote") = false := by decide +kernel
theorem w_times_many : ((Str.ofString "times" : Str) = Str.ofString "many") = False := eq_false (by decide +kernel)
theorem w_times_many_b : ((Str.ofString "times" : Str) == Str.ofString "many") = false := by decide +kernel
theorem w_times_among : ((Str.ofString "times" : Str) = Str.ofString "among") = False := eq_false (by decide +kernel)
theorem w_times_among_b : ((Str.ofString "times" : Str) == Str.ofString "among") = false := by decide +kernel
theorem w_times_did : ((Str.ofString "times" : Str) = Str.ofString "did") = False := eq_false (by decide +kernel)
theorem w_times_did_b : ((Str.ofString "times" : Str) == Str.ofString "did") = false := by decide +kernel
theorem w_times_value : ((Str.ofString "times" : Str) = Str.ofString "value") = False := eq_false (by decide +kernel)
theorem w_times_value_b : ((Str.ofString "times" : Str) == Str.ofString "value") = false := by decide +kernel
theorem w_times_head : ((Str.ofString "times" : Str) = Str.ofString "head") = False := eq_false (by decide +kernel)
theorem w_times_head_b : ((Str.ofString "times" : Str) == Str.ofString "head") = false := by decide +kernel
theorem w_value_wrote : ((Str.ofString "value" : Str) = Str.ofString "wrote") = False := eq_false (by decide +kernel)
theorem w_value_wrote_b : ((Str.ofString "value" : Str) == Str.ofString "wrote") = false := by decide +kernel
theorem w_value_many : ((Str.ofString "value" : Str) = Str.ofString "many") = False := eq_false (by decide +kernel)
theorem w_value_many_b : ((Str.ofString "value" : Str) == Str.ofString "many") = false := by decide +kernel
theorem w_value_among : ((Str.ofString "value" : Str) = Str.ofString "among") = False := eq_false (by decide +kernel)
theorem w_value_among_b : ((Str.ofString "value" : Str) == Str.ofString "among") = false := by decide +kernel
theorem w_value_did : ((Str.ofString "value" : Str) = Str.ofString "did") = False := eq_false (by decide +kernel)
theorem w_value_did_b : ((Str.ofString "value" : Str) == Str.ofString "did") = false := by decide +kernel
theorem w_value_times : ((Str.ofString "value" : Str) = Str.ofString "times") = False := eq_false (by decide +kernel)
theorem w_value_times_b : ((Str.ofString "value" : Str) == Str.ofString "times") = false := by decide +kernel
theorem w_value_head : ((Str.ofString "value" : Str) = Str.ofString "head") = False := eq_false (by decide +kernel)
theorem w_value_head_b : ((Str.ofString "value" : Str) == Str.ofString "head") = false := by decide +kernel
theorem w_head_wrote : ((Str.ofString "head" : Str) = Str.ofString "wrote") = False := eq_false (by decide +kernel)
theorem w_head_wrote_b : ((Str.ofString "head" : Str) == Str.ofString "wrote") = false := by decide +kernel
theorem w_head_many : ((Str.ofString "head" : Str) = Str.ofString "many") = False := eq_false (by decide +kernel)
theorem w_head_many_b : ((Str.ofString "head" : Str) == Str.ofString "many") = false := by decide +kernel
theorem w_head_among : ((Str.ofString "head" : Str) = Str.ofString "among") = False := eq_false (by decide +kernel)
theorem w_head_among_b : ((Str.ofString "head" : Str) == Str.ofString "among") = false := by decide +kernel
theorem w_head_did : ((Str.ofString "head" : Str) = Str.ofString "did") = False := eq_false (by decide +kernel)
theorem w_head_did_b : ((Str.ofString "head" : Str) == Str.ofString "did") = false := by decide +kernel
theorem w_head_times : ((Str.ofString "head" : Str) = Str.ofString "times") = False := eq_false (by decide +kernel)
theorem w_head_times_b : ((Str.ofString "head" : Str) == Str.ofString "times") = false := by decide +kernel
theorem w_head_value : ((Str.ofString "head" : Str) = Str.ofString "value") = False := eq_false (by decide +kernel)
theorem w_head_value_b : ((Str.ofString "head" : Str) == Str.ofString "value") = false := by decide +kernel
end DL
namespace DL
open PySem L2
theorem cut_take {α : Type} (xs : List α) {v : Int} (h : 0 ≤ v) : cutD xs none (some v) = xs.take v.toNat := by
  unfold cutD
  have e : v = ((v.toNat : Nat) : Int) := by omega
  rw [HT.sIx_none, e, HT.sIx_nat, List.drop_zero, Nat.sub_zero, Int.toNat_natCast]
  by_cases hl : v.toNat ≤ xs.length
  · rw [Nat.min_eq_left hl]
  · rw [Nat.min_eq_right (by omega), List.take_length, List.take_of_length_le (by omega)]
theorem cut_drop {α : Type} (xs : List α) {v : Int} (h : 0 ≤ v) : cutD xs (some v) none = xs.drop v.toNat := by
  unfold cutD
  have e : v = ((v.toNat : Nat) : Int) := by omega
  rw [HT.sIx_none, e, HT.sIx_nat, Int.toNat_natCast]
  by_cases hl : v.toNat ≤ xs.length
  · rw [Nat.min_eq_left hl, List.take_of_length_le (by rw [List.length_drop]; omega)]
  · rw [Nat.min_eq_right (by omega), Nat.sub_self, List.take_zero, List.drop_of_length_le (by omega)]
end DL
namespace DL
open PySem L2
/-- a comprehension over written data, by its turns -/
theorem lc_byT {α : Type} {F : TF (List D)} {g : TGD} {A : TF Bool} {Fe : TF D} {vs : List Nat} {ρ : Env} {μ : Mu} {Q : D → Mu → Prop} (l : List α) (f : α → D) (S : α → Option D → Prop) (hF : ∀ R : List D → Mu → Prop, R (l.map f) μ → F ρ μ R)
    (ht : ∀ a ∈ l, TurnS g A Fe (wipeE ρ vs) μ (fun _ r => S a r) (f a)) (hQ : ∀ rs, All2 S l rs → Q (.lst (rs.filterMap id)) μ) : dLc F g A Fe vs ρ μ Q := by
  refine hF _ (fun p hp => ⟨fun i μ' => ∃ rs, All2 S (l.take i) rs ∧ (rs.filterMap id).length ≤ i ∧ μ' = μ.put p (.lst (rs.filterMap id)), ⟨[], by simpa using All2.nil, by simp, rfl⟩, fun i d μ' hd ⟨rs, h1, h2, h3⟩ => ?_, fun μ' ⟨rs, h1, h2, h3⟩ => ?_⟩)
  · subst h3
    rw [List.getElem?_map] at hd
    cases ha : l[i]? with
    | none => rw [ha] at hd; cases hd
    | some a =>
      rw [ha] at hd; cases hd
      refine ht a (List.mem_of_getElem? ha) p _ hp _ fun r hr => ?_
      have e : l.take (i + 1) = l.take i ++ [a] := by rw [List.take_add_one, ha]; rfl
      cases r with
      | none => exact ⟨rs ++ [none], by rw [e]; exact h1.snoc hr, by simp [List.filterMap_append]; omega, by simp [List.filterMap_append]⟩
      | some y => exact ⟨_, Mu.put_same, h2, rs ++ [some y], by rw [e]; exact h1.snoc hr, by simp [List.filterMap_append]; omega, by rw [Mu.put_put]; simp [List.filterMap_append]⟩
  · subst h3
    refine ⟨_, Mu.put_same, ?_⟩
    rw [Mu.put_del hp]
    exact hQ rs (by rw [List.length_map, List.take_length] at h1; exact h1)
theorem lc_mapT {α : Type} {F : TF (List D)} {g : TGD} {A : TF Bool} {Fe : TF D} {vs : List Nat} {ρ : Env} {μ : Mu} {Q : D → Mu → Prop} (l : List α) (f h : α → D) (hF : ∀ R : List D → Mu → Prop, R (l.map f) μ → F ρ μ R)
    (ht : ∀ a ∈ l, TurnS g A Fe (wipeE ρ vs) μ (fun _ r => r = some (h a)) (f a)) (hQ : Q (.lst (l.map h)) μ) : dLc F g A Fe vs ρ μ Q :=
  lc_byT l f (fun a r => r = some (h a)) hF ht fun rs hr => by
    rw [all2_fun hr, List.filterMap_map]
    have : (id ∘ fun d => some (h d)) = fun d => some (h d) := rfl
    rw [this, List.filterMap_eq_map']
    exact hQ
theorem lc_fmapT {α : Type} {F : TF (List D)} {g : TGD} {A : TF Bool} {Fe : TF D} {vs : List Nat} {ρ : Env} {μ : Mu} {Q : D → Mu → Prop} (l : List α) (f : α → D) (h : α → Option D) (hF : ∀ R : List D → Mu → Prop, R (l.map f) μ → F ρ μ R)
    (ht : ∀ a ∈ l, TurnS g A Fe (wipeE ρ vs) μ (fun _ r => r = h a) (f a)) (hQ : Q (.lst (l.filterMap h)) μ) : dLc F g A Fe vs ρ μ Q :=
  lc_byT l f (fun a r => r = h a) hF ht fun rs hr => by
    rw [all2_fun hr, List.filterMap_map]
    exact hQ
/-- a loop over written data, the invariant upon the part passed -/
theorem for_map {α : Type} {F : TF (List D)} {g : TGD} {body : TSD} {E : EndsD} {ρ : Env} {μ : Mu} (f : α → D) (l : List α) (I : List α → Env → Mu → Prop) (hF : ∀ R : List D → Mu → Prop, R (l.map f) μ → F ρ μ R) (h0 : I [] ρ μ)
    (ht : ∀ (pre : List α) (a : α) (post : List α) ρ' μ', l = pre ++ a :: post → I pre ρ' μ' → g (f a) ρ' fun ρ2 => body { E with nx := I (pre ++ [a]), ct := I (pre ++ [a]), bk := E.nx } ρ2 μ') (hd : ∀ ρ' μ', I l ρ' μ' → E.nx ρ' μ') : sFor F g body E ρ μ := by
  refine hF _ ⟨fun i ρ' μ' => I (l.take i) ρ' μ', by simpa using h0, fun i d ρ' μ' hi hI => ?_, fun ρ' μ' hI => hd ρ' μ' (by have h : I (l.take (l.map f).length) ρ' μ' := hI; rw [List.length_map, List.take_length] at h; exact h)⟩
  rw [List.getElem?_map] at hi
  cases ha : l[i]? with
  | none => rw [ha] at hi; cases hi
  | some a =>
    rw [ha] at hi; cases hi
    have e : l.take (i + 1) = l.take i ++ [a] := by rw [List.take_add_one, ha]; rfl
    have hl := (List.getElem?_eq_some_iff.mp ha).1
    have e2 : l = l.take i ++ a :: l.drop (i + 1) := by
      have h1 := (List.getElem?_eq_some_iff.mp ha).2
      have := List.take_append_drop i l
      rw [List.drop_eq_getElem_cons hl, h1] at this
      exact this.symm
    show g (f a) ρ' fun ρ2 => body { E with nx := I (l.take (i + 1)), ct := I (l.take (i + 1)), bk := E.nx } ρ2 μ'
    rw [e]
    exact ht (l.take i) a (l.drop (i + 1)) ρ' μ' e2 hI
theorem rng_map (lo : Int) (n : Nat) : rngD lo n = (List.range n).map fun i => D.int (lo + (i : Nat)) := rfl
end DL
namespace DL
open PySem L2
/-- objects that are not asked for any more -/
def Sub (μ μ' : Mu) : Prop := ∀ a o, μ a = some o → μ' a = some o
theorem Sub.put {μ : Mu} {p : Addr} {o : MO} (h : μ p = none) : Sub μ (μ.put p o) := fun a u e => by rw [Mu.put_ne (Mu.ne_of e h)]; exact e
theorem Sub.hide {μ μ' : Mu} {H : Hp} (s : Sub μ μ') : Same (hide H μ') (DL.hide H μ) := fun b u e => by
  obtain ⟨h1, h2⟩ := hide_some.mp e
  refine hide_some.mpr ⟨?_, h2⟩
  cases q : μ b with
  | none => rfl
  | some o => rw [s b o q] at h1; cases h1
theorem Nx.forget {K : PySem.W.Frag} {H H' : Hp} {μ μ' μ2 : Mu} (n : Nx K H μ H' μ') (s : Sub μ2 μ') : Nx K H μ H' μ2 := ⟨n.ext.trans s.hide, fun a o h => (n.wd a o (s a o h)).mono s.hide⟩
theorem Fun.okDf {P : Program} {w : World} {K : PySem.W.Frag} {mg : Str → Option Value} {base : Heap} {x qual : Str} {st : Stmt} {f : Addr} {fd : FuncData} {N ps : List Str} {k : Nat} {C : CT} {G : TSD} (F : L2.Fun K x qual st f fd) (S : FnScope N ps (defScope st))
    (body : ∀ (cdv : Value) (A : Around) (outer : List PySem.Env) (s : Shared) (H : Hp) (E : XK), Room k (A.deeper (PyProof.Rows.envOfC qual (defScope st) s.heap.objs.size f cdv)) → DSs (cxOf CX0 P w K mg base N qual (defScope st) f cdv A outer s H E).nox (defBody st) G)
    (len : ∀ ds μ Q, C ds μ Q → ds.length = ps.length)
    (h : ∀ ds μ Q, C ds μ Q → G { nx := fun _ μ' => ∃ μ2, Sub μ2 μ' ∧ Q .non μ2, rt := fun d μ' => ∃ μ2, Sub μ2 μ' ∧ Q d μ2 } (startD N ds) μ) : FnOk P w K mg base CX0 (k + 1) f fd ps (spD K C) := by
  refine F.ok S (fun vs H Q E ⟨ds, μ, Qd, r, _, c, _⟩ => r.length.trans (len ds μ Qd c)) fun cdv A outer s H vs Q E hr ⟨ds, μ, Qd, r, w', c, kk⟩ => ?_
  refine ⟨_, body cdv A outer s H E hr, startD N ds, μ, _, ⟨renv_start r, w'⟩, h ds μ Qd c, ⟨fun ρ' μ' σ' H' ⟨μ2, sb, g⟩ s' n => kk .non μ2 .non H' g (n.forget sb) .non, fun d μ' v H' ⟨μ2, sb, g⟩ n r' => kk d μ2 v H' g (n.forget sb) (r'.mono sb.hide), fun _ _ _ _ z => z.elim, fun _ _ _ _ z => z.elim⟩⟩
end DL
end

-- part DL9
section
namespace DL
open PySem L2
def bufD (ns : List Int) (i j k : Int) : List D := [.lst (ns.map .int), .int i, .int j, .int k]
def BufOk (ns : List Int) (i j k : Int) : Prop := ns.length ≤ 63 ∧ 0 ≤ i ∧ 0 ≤ j ∧ 0 ≤ k ∧ k < 2147483647
theorem hide_over {H : Hp} {μ : Mu} {a : Addr} {o m : MO} (h : μ a = some o) : hide H (μ.put a m) = hide H μ := by
  funext b; unfold hide Mu.put
  by_cases e : b = a
  · subst e; simp [h]
  · simp [e]
theorem rpi_of {K : PySem.W.Frag} {G : Hp} : ∀ ns : List Int, RpAll K G (ns.map V.int) (ns.map D.int)
  | [] => .nil
  | n :: ns => .cons (.int n) (rpi_of ns)
theorem rpi_inv {K : PySem.W.Frag} {G : Hp} : ∀ {ns : List Int} {vs : List V}, RpAll K G vs (ns.map D.int) → vs = ns.map V.int
  | [], _, .nil => rfl
  | n :: ns, _, .cons (.int _) r => by rw [rpi_inv r]; rfl
theorem draw_open {K : PySem.W.Frag} {H : Hp} {μ : Mu} {a : Addr} (w : Wd K H μ) (h : μ a = some .draw) : ∃ ns i j k, BufOk ns i j k ∧ Wd K H (μ.put a (.lst (bufD ns i j k))) := by
  obtain ⟨b, ns, i, j, k, h1, h2, h3, h4⟩ := w a _ h
  refine ⟨ns, i, j, k, ⟨h3, h4⟩, fun c o hc => ?_⟩
  rw [hide_over h]
  by_cases e : c = a
  · subst e
    rw [Mu.put_same] at hc
    cases hc
    exact ⟨_, h1, .cons (.lst h2 (rpi_of ns) (by rw [List.length_map]; exact sz_small (by omega))) (.cons (.int _) (.cons (.int _) (.cons (.int _) .nil))), (by decide : 4 ≤ sizeLine)⟩
  · rw [Mu.put_ne e] at hc
    exact w c o hc
theorem draw_shut {K : PySem.W.Frag} {H : Hp} {μ : Mu} {a : Addr} {ns : List Int} {i j k : Int} (w : Wd K H μ) (h : μ a = some (.lst (bufD ns i j k))) (b : BufOk ns i j k) : Wd K H (μ.put a .draw) := by
  obtain ⟨xs, h1, h2, h3⟩ := w a _ h
  intro c o hc
  rw [hide_over h]
  by_cases e : c = a
  · subst e
    rw [Mu.put_same] at hc
    cases hc
    unfold bufD at h2
    cases h2 with
    | cons r1 r =>
      cases r with
      | cons r2 r =>
        cases r with
        | cons r3 r =>
          cases r with
          | cons r4 r =>
            cases r
            cases r2; cases r3; cases r4
            cases r1 with
            | lst g1 g2 g3 => exact ⟨_, ns, i, j, k, h1, by rw [rpi_inv g2] at g1; exact g1, b⟩
  · rw [Mu.put_ne e] at hc
    exact w c o hc
theorem buf_ix {μ : Mu} {p : Addr} {ds : List D} {i : Int} {P : D → Prop} (h : μ p = some (.lst ds)) : (∃ es d, μ p = some (MO.lst es) ∧ atI es i = some d ∧ P d) = ∃ d, atI ds i = some d ∧ P d := by
  rw [h]
  exact propext ⟨fun ⟨es, d, e, a, b⟩ => by cases e; exact ⟨d, a, b⟩, fun ⟨d, a, b⟩ => ⟨ds, d, rfl, a, b⟩⟩
theorem abs_nn (i : Int) : 0 ≤ absI i := by unfold absI; split <;> omega
/-- the wish of a def that reads a drawer, by its cells -/
def C0_next : CT := fun ds μ Q => match ds with
  | [.ptr dr, .int many] => ∃ ns i j k, μ dr = some (.lst (bufD ns i j k)) ∧ BufOk ns i j k ∧ 0 < many ∧ many < 1073741824 ∧ ∀ (r : Int) (i' j' k' : Int), 0 ≤ r → r < many → BufOk ns i' j' k' → Q (.int r) (μ.put dr (.lst (bufD ns i' j' k')))
  | _ => False
def C_next : CT := fun ds μ Q => match ds with
  | [.ptr dr, .int many] => μ dr = some .draw ∧ 0 < many ∧ many < 1073741824 ∧ ∀ r : Int, 0 ≤ r → r < many → Q (.int r) μ
  | _ => False
theorem next_imp {K : PySem.W.Frag} {vs : List V} {H : Hp} {Q : VK} {E : XK} (h : spD K C_next vs H Q E) : spD K C0_next vs H Q E := by
  obtain ⟨ds, μ, Qd, r, w, c, kk⟩ := h
  unfold C_next at c
  split at c
  · rename_i ds' dr many
    obtain ⟨h1, h2, h3, h4⟩ := c
    obtain ⟨ns, i, j, k, hb, w2⟩ := draw_open w h1
    refine ⟨_, _, fun d μ' => ∃ (r : Int) (i' j' k' : Int), d = .int r ∧ 0 ≤ r ∧ r < many ∧ BufOk ns i' j' k' ∧ μ' = (μ.put dr (.lst (bufD ns i j k))).put dr (.lst (bufD ns i' j' k')), by rw [hide_over h1]; exact r, w2, ?_, ?_⟩
    · exact ⟨ns, i, j, k, Mu.put_same, hb, h2, h3, fun r i' j' k' h0 hm hb' => ⟨r, i', j', k', rfl, h0, hm, hb', rfl⟩⟩
    · rintro d μ' v H' ⟨r', i', j', k', rfl, h0, hm, hb', rfl⟩ n rv
      have w3 := draw_shut n.wd Mu.put_same hb'
      have e : ((((μ.put dr (.lst (bufD ns i j k))).put dr (.lst (bufD ns i' j' k'))).put dr .draw) : Mu) = μ := by
        rw [Mu.put_put, Mu.put_put]
        funext b; unfold Mu.put; split
        · rename_i e; subst e; exact h1.symm
        · rfl
      have e2 : hide H' μ = hide H' ((μ.put dr (.lst (bufD ns i j k))).put dr (.lst (bufD ns i' j' k'))) := by rw [Mu.put_put, hide_over h1]
      rw [e] at w3
      refine kk _ μ v H' (h4 r' h0 hm) ⟨?_, w3⟩ ?_
      · have := n.ext
        rw [hide_over h1] at this
        rw [e2]
        exact this
      · cases rv; exact .int _
  · exact c.elim
def C0_draw : CT := fun ds μ Q => match ds with
  | [.scr ns] => ns.length ≤ 63 ∧ ∀ p, μ p = none → Q (.ptr p) (μ.put p (.lst (bufD ns 0 0 17)))
  | _ => False
def C_draw : CT := fun ds μ Q => match ds with
  | [.scr ns] => ns.length ≤ 63 ∧ ∀ p, μ p = none → Q (.ptr p) (μ.put p .draw)
  | _ => False
theorem draw_imp {K : PySem.W.Frag} {vs : List V} {H : Hp} {Q : VK} {E : XK} (h : spD K C_draw vs H Q E) : spD K C0_draw vs H Q E := by
  obtain ⟨ds, μ, Qd, r, w, c, kk⟩ := h
  unfold C_draw at c
  split at c
  · rename_i ds' ns
    obtain ⟨h1, h4⟩ := c
    refine ⟨_, _, fun d μ' => ∃ p, μ p = none ∧ d = .ptr p ∧ μ' = μ.put p (.lst (bufD ns 0 0 17)), r, w, ⟨h1, fun p hp => ⟨p, hp, rfl, rfl⟩⟩, ?_⟩
    rintro d μ' v H' ⟨p, hp, rfl, rfl⟩ n rv
    have w3 := draw_shut n.wd Mu.put_same ⟨h1, by omega, by omega, by omega, by omega⟩
    rw [Mu.put_put] at w3
    have e2 : hide H' (μ.put p .draw) = hide H' (μ.put p (.lst (bufD ns 0 0 17))) := by
      have := hide_over (H := H') (m := .draw) (Mu.put_same (μ := μ) (a := p) (o := .lst (bufD ns 0 0 17)))
      rw [Mu.put_put] at this
      exact this
    refine kk _ _ v H' (h4 p hp) ⟨?_, w3⟩ ?_
    · rw [e2]; exact n.ext
    · cases rv; exact .ptr _
  · exact c.elim
end DL
end

-- part DL10
section
namespace DL
open PySem L2
variable {ρ : DL.Env} {μ : Mu} {E : EndsD}
theorem step_set {i : Nat} {F : TF D} {REST : TSD} (S : D → Mu → Prop) (hF : ∀ R : D → Mu → Prop, (∀ d μ', S d μ' → R d μ') → F ρ μ R) (h : ∀ d μ', S d μ' → REST E (ρ.set i (some d)) μ') : sSeq (sSet i F) REST E ρ μ := hF _ h
theorem step {a REST : TSD} (S : DL.Env → Mu → Prop) (ha : ∀ E' : EndsD, (∀ ρ' μ', S ρ' μ' → E'.nx ρ' μ') → a E' ρ μ) (h : ∀ ρ' μ', S ρ' μ' → REST E ρ' μ') : sSeq a REST E ρ μ := ha _ h
theorem step_for {α : Type} {F : TF (List D)} {g : TGD} {body REST : TSD} (f : α → D) (l : List α) (I : List α → DL.Env → Mu → Prop) (hF : ∀ R : List D → Mu → Prop, R (l.map f) μ → F ρ μ R) (h0 : I [] ρ μ)
    (ht : ∀ (pre : List α) (a : α) (post : List α) ρ' μ', l = pre ++ a :: post → I pre ρ' μ' → ∀ E' : EndsD, E'.rt = E.rt → (∀ ρ3 μ3, I (pre ++ [a]) ρ3 μ3 → E'.nx ρ3 μ3) → g (f a) ρ' fun ρ2 => body E' ρ2 μ') (hd : ∀ ρ' μ', I l ρ' μ' → REST E ρ' μ') : sSeq (sFor F g body) REST E ρ μ :=
  for_map (E := { E with nx := REST E }) f l I hF h0 (fun pre a post ρ' μ' e hI => ht pre a post ρ' μ' e hI _ rfl fun _ _ h => h) hd
theorem last_for {α : Type} {F : TF (List D)} {g : TGD} {body : TSD} (f : α → D) (l : List α) (I : List α → DL.Env → Mu → Prop) (hF : ∀ R : List D → Mu → Prop, R (l.map f) μ → F ρ μ R) (h0 : I [] ρ μ)
    (ht : ∀ (pre : List α) (a : α) (post : List α) ρ' μ', l = pre ++ a :: post → I pre ρ' μ' → ∀ E' : EndsD, E'.rt = E.rt → (∀ ρ3 μ3, I (pre ++ [a]) ρ3 μ3 → E'.nx ρ3 μ3) → g (f a) ρ' fun ρ2 => body E' ρ2 μ') (hd : ∀ ρ' μ', I l ρ' μ' → E.nx ρ' μ') : sFor F g body E ρ μ :=
  for_map f l I hF h0 (fun pre a post ρ' μ' e hI => ht pre a post ρ' μ' e hI _ rfl fun _ _ h => h) hd
theorem step_forQ {α : Type} {F : TF (List D)} {g : TGD} {body REST : TSD} (f : α → D) (G : List α → Prop) (I : List α → DL.Env → Mu → Prop) (hF : ∀ R : List D → Mu → Prop, (∀ l, G l → R (l.map f) μ) → F ρ μ R) (h0 : I [] ρ μ)
    (ht : ∀ (l pre : List α) (a : α) (post : List α) ρ' μ', G l → l = pre ++ a :: post → I pre ρ' μ' → ∀ E' : EndsD, E'.rt = E.rt → (∀ ρ3 μ3, I (pre ++ [a]) ρ3 μ3 → E'.nx ρ3 μ3) → g (f a) ρ' fun ρ2 => body E' ρ2 μ') (hd : ∀ l ρ' μ', G l → I l ρ' μ' → REST E ρ' μ') : sSeq (sFor F g body) REST E ρ μ :=
  hF _ fun l hl => step_for (F := fun _ μ R => R (l.map f) μ) f l I (fun R h => h) h0 (fun pre a post ρ' μ' e hI => ht l pre a post ρ' μ' hl e hI) fun ρ' μ' hI => hd l ρ' μ' hl hI
end DL
end

-- part DL11
section
/-! instances, methods, texts at the data layer -/
namespace DL
open PySem L2
abbrev FsR (K : PySem.W.Frag) (G : Hp) (gs : List (Str × V)) (fs : List (Str × D)) : Prop := Paired (fun (p : Str × V) (q : Str × D) => p.1 = q.1 ∧ Rp K G p.2 q.2) gs fs
theorem fs_lookup {K : PySem.W.Frag} {G : Hp} {f : Str} : ∀ {gs : List (Str × V)} {fs : List (Str × D)} {d : D}, FsR K G gs fs → fs.lookup f = some d → ∃ v, gs.lookup f = some v ∧ Rp K G v d
  | _, _, d, .nil, h => by cases h
  | (a, v) :: gs, (b, u) :: fs, d, .cons ⟨e, r⟩ t, h => by
    simp only at e r
    subst e
    rw [List.lookup_cons] at h ⊢
    split at h
    · cases h
      exact ⟨v, rfl, r⟩
    · exact fs_lookup t h
theorem fs_none {K : PySem.W.Frag} {G : Hp} {f : Str} : ∀ {gs : List (Str × V)} {fs : List (Str × D)}, FsR K G gs fs → fs.lookup f = none → gs.lookup f = none
  | _, _, .nil, h => rfl
  | (a, v) :: gs, (b, u) :: fs, .cons ⟨e, r⟩ t, h => by
    simp only at e r
    subst e
    rw [List.lookup_cons] at h ⊢
    split at h
    · cases h
    · exact fs_none t h
def putD (f : Str) (d : D) : List (Str × D) → List (Str × D)
  | [] => [(f, d)]
  | (g, x) :: r => if g = f then (g, d) :: r else (g, x) :: putD f d r
theorem fs_put {K : PySem.W.Frag} {G : Hp} {f : Str} {v : V} {d : D} (r : Rp K G v d) : ∀ {gs : List (Str × V)} {fs : List (Str × D)}, FsR K G gs fs → FsR K G (putF f v gs) (putD f d fs)
  | _, _, .nil => .cons ⟨rfl, r⟩ .nil
  | (a, v') :: gs, (b, u) :: fs, .cons ⟨e, r'⟩ t => by
    simp only at e r'
    subst e
    unfold putF putD
    split
    · exact .cons ⟨rfl, r⟩ t
    · exact .cons ⟨rfl, r'⟩ (fs_put r t)
theorem fs_len {K : PySem.W.Frag} {G : Hp} : ∀ {gs : List (Str × V)} {fs : List (Str × D)}, FsR K G gs fs → gs.length = fs.length
  | _, _, .nil => rfl
  | _, _, .cons _ t => by simp [fs_len t]
theorem fs_mono {K : PySem.W.Frag} {G G' : Hp} (e : Same G G') {gs : List (Str × V)} {fs : List (Str × D)} (h : FsR K G gs fs) : FsR K G' gs fs := Paired.mapP h fun _ _ z => ⟨z.1, z.2.mono e⟩
section
variable {X : Cx} {C : Addr} {f : Str} {o e : Expr} {Fo Fe : TF D} {pos pos' tpos : Pos}
/-- o.f -/
def dFld (C : Addr) (f : Str) (F : TF D) : TF D := fun ρ μ Q => F ρ μ fun x μ1 => ∃ a fs d, x = .ptr a ∧ μ1 a = some (.ins C fs) ∧ fs.lookup f = some d ∧ Q d μ1
theorem de_fld (c : Cls X.K C) (n : NoAttr X.K C f) (ho : DE X o Fo) (hb : attributeBase o f X.env (eval o X.env) = eval o X.env := by rfl) : DE X (.Attribute o f pos) (dFld C f Fo) := by
  refine weakE (pe_fld ho hb) fun σ H Q ⟨ρ, μ, Qd, s, h, kk⟩ => Lift.go (F := Fo) s h fun x μ1 v H1 ⟨a, fs, d, ex, hm, hl, g⟩ s1 n1 r1 => ?_
  subst ex
  cases r1
  obtain ⟨dx, gs, h1, h2⟩ := s1.wd a _ hm
  obtain ⟨w', hw, rw'⟩ := fs_lookup h2 hl
  exact ⟨a, C, dx, gs, w', rfl, h1, c, n, hw, kk d μ1 w' H1 g n1 rw'⟩
/-- o.f = e -/
def sFld (C : Addr) (f : Str) (Fo Fe : TF D) : TSD := fun E ρ μ => Fe ρ μ fun y μ1 => Fo ρ μ1 fun x μ2 => ∃ a fs, x = .ptr a ∧ μ2 a = some (.ins C fs) ∧ fs.length < 1000 ∧ E.nx ρ (μ2.put a (.ins C (putD f y fs)))
theorem ds_fld (c : Cls X.K C) (n : NoAttr X.K C f) (ho : DE X o Fo) (he : DE X e Fe) (hs : swapsWith e (some (.Attribute o f pos')) pos.line X.env = pure false := by rfl) : DS X (.Assign [.Attribute o f pos'] e pos) (sFld C f Fo Fe) :=
  weakS (ps_fld ho he hs) fun D' σ H ⟨ρ, μ, E, s, h, cc⟩ => Lift.go (F := Fe) s h fun y μ1 vy H1 g1 s1 n1 r1 => Lift.go (F := Fo) s1 g1 fun x μ2 vx H2 ⟨a, fs, ex, hm, hl, g⟩ s2 n2 r2 => by
    subst ex
    cases r2
    obtain ⟨dx, gs, h1, h2⟩ := s2.wd a _ hm
    have n3 : Nx X.K H2 μ2 (upd H2 a (.ins C dx (putF f vy gs))) (μ2.put a (.ins C (putD f y fs))) := Nx.put s2.wd (fun z => by rw [hm] at z; cases z) ⟨dx, _, rfl, fs_put (r1.mono n2.ext) h2⟩
    exact ⟨a, C, dx, gs, rfl, h1, c, n, by rw [fs_len h2]; exact hl, cc.nx ρ _ σ _ g (s2.next n3) ((n1.trans n2).trans n3)⟩
/-- o.f += e, ints -/
def sFldI (C : Addr) (f : Str) (Fo Fe : TF D) : TSD := fun E ρ μ => Fo ρ μ fun x μ1 => ∃ a fs i, x = .ptr a ∧ μ1 a = some (.ins C fs) ∧ fs.lookup f = some (.int i) ∧ Fe ρ μ1 fun y μ2 => ∃ j fs', y = .int j ∧ μ2 a = some (.ins C fs') ∧ fs'.length < 1000 ∧ E.nx ρ (μ2.put a (.ins C (putD f (.int (i + j)) fs')))
theorem ds_fldI (c : Cls X.K C) (n : NoAttr X.K C f) (ho : DE X o Fo) (he : DE X e Fe) : DS X (.AugAssign (.Attribute o f tpos) .Add e pos) (sFldI C f Fo Fe) :=
  weakS (ps_fldaug ho he in_add) fun D' σ H ⟨ρ, μ, E, s, h, cc⟩ => Lift.go (F := Fo) s h fun x μ1 vx H1 ⟨a, fs, i, ex, hm, hl, g1⟩ s1 n1 r1 => by
    subst ex
    cases r1
    obtain ⟨dx, gs, h1, h2⟩ := s1.wd a _ hm
    obtain ⟨w', hw, rw'⟩ := fs_lookup h2 hl
    cases rw'
    refine ⟨a, C, dx, gs, _, rfl, h1, c, n, hw, Lift.go (F := Fe) s1 g1 fun y μ2 vy H2 ⟨j, fs', ey, hm2, hl2, g⟩ s2 n2 r2 => ?_⟩
    subst ey
    cases r2
    obtain ⟨dx2, gs2, h3, h4⟩ := s2.wd a _ hm2
    have n3 : Nx X.K H2 μ2 (upd H2 a (.ins C dx2 (putF f (.int (i + j)) gs2))) (μ2.put a (.ins C (putD f (.int (i + j)) fs'))) := Nx.put s2.wd (fun z => by rw [hm2] at z; cases z) ⟨dx2, _, rfl, fs_put (.int _) h4⟩
    exact ⟨i, j, rfl, rfl, dx2, gs2, h3, by rw [fs_len h4]; exact hl2, cc.nx ρ _ σ _ g (s2.next n3) ((n1.trans n2).trans n3)⟩
end
section
variable {X : Cx} {C : Addr} {m : Str} {o e : Expr} {es : List Expr} {Fo : TF D} {A : TF (List D)} {pos apos p : Pos} {k : Nat} {g : Addr} {fd : FuncData} {ps : List Str} {Ct : CT} {CX : CXT} {E : XK}
/-- o.m(..) -/
def dMeth (C : Addr) (m : Str) (Ct : CT) (Fo : TF D) (A : TF (List D)) : TF D := fun ρ μ Q => Fo ρ μ fun x μ1 => ∃ a fs, x = .ptr a ∧ μ1 a = some (.ins C fs) ∧ fs.lookup m = none ∧ A ρ μ1 fun ds μ2 => Ct (.ptr a :: ds) μ2 Q
theorem meth_go {σ : L2.St} {H : Hp} {Q : VK} {K : PySem.W.Frag} (h : tD K (dMeth C m Ct Fo A) σ H Q) : tMeth C m (spD K Ct) [] E (tD K Fo) (tDA K A) σ H Q := by
  obtain ⟨ρ, μ, Qd, s, hf, kk⟩ := h
  refine Lift.go s hf fun x μ1 v H1 ⟨a, fs, ex, hm, hl, g1⟩ s1 n1 r1 => ?_
  subst ex
  cases r1
  obtain ⟨dx, gs, h1, h2⟩ := s1.wd a _ hm
  refine ⟨a, dx, gs, rfl, h1, fs_none h2 hl, Lift.go s1 g1 fun ds μ2 vs H2 g2 s2 n2 r2 => ?_⟩
  exact ⟨.ptr a :: ds, μ2, Qd, by rw [List.append_nil]; exact .cons (.ptr a) r2, s2.wd, g2, fun d μ' v H' q n r => kk d μ' v H' q ((n1.trans n2).trans n) r⟩
theorem de_meth {pl : Sem Bool} (c : Cls X.K C) (hm : Meth X.K C m g) (F : FnOk X.prog X.w X.K X.mg X.base CX k g fd ps (spD X.K Ct)) (hr : Room k X.A) (hb : Binds X.K fd ps []) (hx : Passes CX X E) (ho : DE X o Fo) (ha : DA X (e :: es) A)
    (hst : starEach (e :: es) X.env = (false, eval e X.env) :: starEach es X.env := by rfl) (hpl : (backTo pos (starEach es X.env)).any (·.1) = false := by rfl)
    (ht : eval (.Call (.Attribute o m apos) (e :: es) [] pos) X.env = (do
      let ov ← eval o X.env
      standAt apos.atName
      let (f, fst) ← holding [ov] (getMethod ov m pl)
      callWith pos f fst (backTo pos (starEach (e :: es) X.env)) (backToKw pos (keywordEach [] X.env))) := by rfl) :
    DE X (.Call (.Attribute o m apos) (e :: es) [] pos) (dMeth C m Ct Fo A) := weakE (pe_meth (pl := pl) ho c hm F hr hb .nil hx ha hst hpl ht) fun _ _ _ h => meth_go h
theorem de_meth0 {pl : Sem Bool} (c : Cls X.K C) (hm : Meth X.K C m g) (F : FnOk X.prog X.w X.K X.mg X.base CX k g fd ps (spD X.K Ct)) (hr : Room k X.A) (hb : Binds X.K fd ps []) (hx : Passes CX X E) (ho : DE X o Fo)
    (ht : eval (.Call (.Attribute o m apos) [] [] pos) X.env = (do
      let ov ← eval o X.env
      standAt apos.atName
      let (f, fst) ← holding [ov] (getMethod ov m pl)
      callWith pos f fst (backTo pos (starEach [] X.env)) (backToKw pos (keywordEach [] X.env))) := by rfl) :
    DE X (.Call (.Attribute o m apos) [] [] pos) (dMeth C m Ct Fo aNil) := weakE (pe_meth0 (pl := pl) ho c hm F hr hb .nil hx ht) fun σ H Q h => by
  obtain ⟨ρ, μ, Qd, s, hf, kk⟩ := h
  refine Lift.go s hf fun x μ1 v H1 ⟨a, fs, ex, hm', hl, g1⟩ s1 n1 r1 => ?_
  subst ex
  cases r1
  obtain ⟨dx, gs, h1, h2⟩ := s1.wd a _ hm'
  exact ⟨a, dx, gs, rfl, h1, fs_none h2 hl, [.ptr a], μ1, Qd, .cons (.ptr a) .nil, s1.wd, g1, fun d μ' v H' q n r => kk d μ' v H' q (n1.trans n) r⟩
/-- C(..) -/
def dMake (C : Addr) (Ct : CT) (A : TF (List D)) : TF D := fun ρ μ Q => A ρ μ fun ds μ1 => ∀ q, μ1 q = none → Ct (.ptr q :: ds) (μ1.put q (.ins C [])) fun d μ2 => d = .non ∧ Q (.ptr q) μ2
theorem make_go {σ : L2.St} {H : Hp} {Q : VK} {K : PySem.W.Frag} (h : tD K (dMake C Ct A) σ H Q) : tMake C (spD K Ct) [] E (tDA K A) σ H Q := by
  obtain ⟨ρ, μ, Qd, s, hf, kk⟩ := h
  refine Lift.go s hf fun ds μ1 vs H1 g1 s1 n1 r1 q dx hq hdx hne => ?_
  have hm := s1.wd.free hq
  have na : Nx K H1 μ1 (upd H1 dx (.own q)) μ1 := Nx.new s1.wd hdx
  have nb : Nx K (upd H1 dx (.own q)) μ1 (upd (upd H1 dx (.own q)) q (.ins C dx [])) (μ1.put q (.ins C [])) := Nx.put na.wd (fun _ => by rw [upd_ne (Ne.symm hne)]; exact hq) ⟨dx, [], rfl, .nil⟩
  have nn := na.trans nb
  refine ⟨.ptr q :: ds, _, fun d μ2 => d = .non ∧ Qd (.ptr q) μ2, by rw [List.append_nil]; exact .cons (.ptr q) (r1.mono nn.ext), nn.wd, g1 q hm, fun d μ' v H' ⟨ed, qd⟩ n r => ?_⟩
  subst ed
  cases r
  exact ⟨rfl, kk _ μ' _ H' qd ((n1.trans nn).trans n) (.ptr q)⟩
theorem de_make {x : Str} (M : Mk X.K C g) (F : FnOk X.prog X.w X.K X.mg X.base CX k g fd ps (spD X.K Ct)) (hr : Room (k + 1) X.A) (hg : Gl X x) (hmg : X.mg x = some (.ref C)) (hb : Binds X.K fd ps []) (hx : Passes CX X E) (ha : DA X (e :: es) A)
    (hdb : (x == ("__debug__" : Str)) = false := by decide) (he : starEach (e :: es) X.env = (false, eval e X.env) :: starEach es X.env := by rfl) (hpl : (backTo pos (starEach es X.env)).any (·.1) = false := by rfl) :
    DE X (.Call (.Name x p) (e :: es) [] pos) (dMake C Ct A) := weakE (pe_make M F hr hg hmg hb .nil hx ha hdb he hpl) fun _ _ _ h => make_go h
end
end DL
end

-- part DL12
section
/-! texts at the data layer -/
namespace DL
open PySem L2
section
variable {K : PySem.W.Frag}
/-- str(x), an int or a text -/
def fStr : FB := fun _ ds P => match ds with
  | [.int i] => i.natAbs.log2 < 1920 ∧ SOk (toString i) ∧ P (.str (toString i))
  | [.str a] => P (.str a)
  | _ => False
theorem call_strIS {X : Cx} : CallR X (.type "str") (fun xs H Q => (∃ i : Int, xs = [.int i] ∧ i.natAbs.log2 < 1920 ∧ Q (.str (toString i)) H) ∨ ∃ a, xs = [.str a] ∧ Q (.str a) H) := by
  intro pins s σ H xs us Q I r h
  rcases h with h | h
  · exact call_str_int pins s σ H xs us Q I r h
  · exact SkE.call_str_str pins s σ H xs us Q I r h
theorem cd_str : CallD K (fun xs H Q => (∃ i : Int, xs = [.int i] ∧ i.natAbs.log2 < 1920 ∧ Q (.str (toString i)) H) ∨ ∃ a, xs = [.str a] ∧ Q (.str a) H) fStr := by
  intro ds vs H μ P Q w r q k
  unfold fStr at q
  split at q
  · obtain ⟨v, rfl, r1⟩ := rp1 r
    cases r1
    exact .inl ⟨_, rfl, q.1, k _ _ H q.2.2 (Nx.refl w) (.str _ q.2.1)⟩
  · obtain ⟨v, rfl, r1⟩ := rp1 r
    cases r1 with
    | str a ha => exact .inr ⟨_, rfl, k _ _ H q (Nx.refl w) (.str _ ha)⟩
  · exact q.elim
end
section
variable {X : Cx} {o e : Expr} {Fo Fe : TF D} {pos apos : Pos}
/-- {x} in a text -/
def dFmt (F : TF D) : TF D := fun ρ μ Q => F ρ μ fun x μ1 => match x with
  | .str y => Q (.str y) μ1
  | .int i => i.natAbs.log2 < 1920 ∧ SOk (toString i) ∧ Q (.str (toString i)) μ1
  | _ => False
theorem de_fmt (he : DE X e Fe) : DE X (.FormattedValue e (-1) none pos) (dFmt Fe) := by
  refine weakE (pe_fmt he) fun σ H Q ⟨ρ, μ, Qd, s, h, kk⟩ => Lift.go (F := Fe) s h fun x μ1 v H1 g s1 n1 r1 => ?_
  cases r1 with
  | str y hy => exact .inl ⟨y, rfl, hy.1, kk _ μ1 _ H1 g n1 (.str y hy)⟩
  | int i => exact .inr ⟨i, rfl, g.1, kk _ μ1 _ H1 g.2.2 n1 (.str _ g.2.1)⟩
  | non => exact False.elim g
  | bl _ => exact False.elim g
  | tup _ _ _ => exact False.elim g
  | lst _ _ _ => exact False.elim g
  | ptr _ => exact False.elim g
  | scr _ => exact False.elim g
  | ty _ => exact False.elim g
  | exn _ _ => exact False.elim g
/-- the parts of a text -/
inductive DJ (X : Cx) : List Expr → List (TF D) → Prop where
  | nil : DJ X [] []
  | cons {e : Expr} {F : TF D} {es : List Expr} {Fs : List (TF D)} (h : DE X e F) (r : DJ X es Fs) : DJ X (e :: es) (F :: Fs)
def dJs : List (TF D) → Str → Env → Mu → (D → Mu → Prop) → Prop
  | [], acc, _, μ, Q => SOk acc ∧ Q (.str acc) μ
  | F :: Fs, acc, ρ, μ, Q => F ρ μ fun x μ1 => ∃ y : Str, x = .str y ∧ (acc ++ y).length ≤ sizeLine ∧ dJs Fs (acc ++ y) ρ μ1 Q
theorem DJ.pj {es : List Expr} {Fs : List (TF D)} (h : DJ X es Fs) : PJ X es (Fs.map (tD X.K)) := by
  induction h with
  | nil => exact .nil
  | cons h r ih => exact .cons h ih
theorem js_go {K : PySem.W.Frag} {σ : L2.St} {ρ : Env} : ∀ (Fs : List (TF D)) (acc : Str) (H : Hp) (μ : Mu) (Q : Str → Hp → Prop) (Qd : D → Mu → Prop), StOk K H μ σ ρ → dJs Fs acc ρ μ Qd →
    (∀ out μ' H', SOk out → Qd (.str out) μ' → Nx K H μ H' μ' → Q out H') → tJs (Fs.map (tD K)) acc σ H Q
  | [], acc, H, μ, Q, Qd, s, h, kk => kk acc μ H h.1 h.2 (Nx.refl s.wd)
  | F :: Fs, acc, H, μ, Q, Qd, s, h, kk => by
    show tD K F σ H _
    refine Lift.go (F := F) s h fun x μ1 v H1 ⟨y, ex, hl, g⟩ s1 n1 r1 => ?_
    subst ex
    cases r1
    exact ⟨y, rfl, hl, js_go Fs (acc ++ y) H1 μ1 Q Qd s1 g fun out μ' H' so q n => kk out μ' H' so q (n1.trans n)⟩
def dJoined (Fs : List (TF D)) : TF D := fun ρ μ Q => dJs Fs Str.empty ρ μ Q
theorem de_joined {v1 v2 : Expr} {rest : List Expr} {Fs : List (TF D)} (h : DJ X (v1 :: v2 :: rest) Fs) : DE X (.JoinedStr (v1 :: v2 :: rest) pos) (dJoined Fs) :=
  weakE (pe_joined h.pj) fun σ H Q ⟨ρ, μ, Qd, s, hf, kk⟩ => js_go Fs Str.empty H μ _ Qd s hf fun out μ' H' so q n => kk (.str out) μ' (.str out) H' q n (.str out so)
/-- sep.join(texts) -/
def dJoin (Fo Fe : TF D) : TF D := fun ρ μ Q => Fo ρ μ fun x μ1 => ∃ a : Str, x = .str a ∧ Fe ρ μ1 fun y μ2 => ∃ ds ks, (y = .lst ds ∨ y = .tup ds) ∧ strsD ds = some ks ∧ (ks.map (·.length)).sum + ks.length * a.length ≤ 16777216 ∧ SOk (Txt.join a ks) ∧ Q (.str (Txt.join a ks)) μ2
theorem de_join (ho : DE X o Fo) (he : DE X e Fe) (hs : starEach [e] X.env = [(false, eval e X.env)] := by rfl) (hbase : attributeBase o "join" X.env (eval o X.env) = eval o X.env := by rfl) (hline : (apos.endLine == pos.line) = true := by rfl) :
    DE X (.Call (.Attribute o "join" apos) [e] [] pos) (dJoin Fo Fe) := by
  refine weakE (pe_join ho he hs hbase hline) fun σ H Q ⟨ρ, μ, Qd, s, h, kk⟩ => Lift.go (F := Fo) s h fun x μ1 v H1 ⟨a, ex, g1⟩ s1 n1 r1 => ?_
  subst ex
  cases r1
  refine ⟨⟨a, rfl⟩, Lift.go (F := Fe) s1 g1 fun y μ2 v2 H2 ⟨ds, ks, ey, hk, hz, so, g⟩ s2 n2 r2 => ?_⟩
  have fin := kk _ μ2 (.str (Txt.join a ks)) H2 g (n1.trans n2) (.str _ so)
  rcases ey with ey | ey
  · subst ey
    cases r2 with
    | lst ha ra za =>
      obtain ⟨e1, e2, e3⟩ := strs_inv ra hk
      subst e1
      exact ⟨a, _, ks, rfl, rfl, .inl (SqL.of (hide_in ha)), hz, fin⟩
  · subst ey
    cases r2 with
    | tup ha ra za =>
      obtain ⟨e1, e2, e3⟩ := strs_inv ra hk
      subst e1
      exact ⟨a, _, ks, rfl, rfl, .inr (SqT.of (hide_in ha)), hz, fin⟩
/-- x.split(sep) -/
def dSplit (Fo Fe : TF D) : TF D := fun ρ μ Q => Fo ρ μ fun x μ1 => ∃ a : Str, x = .str a ∧ Fe ρ μ1 fun y μ2 => ∃ b : Str, y = .str b ∧ (b.length == 0) = false ∧ a.length + 2 ≤ sizeLine ∧ (Txt.split a b).length ≤ sizeLine ∧ (∀ k ∈ Txt.split a b, SOk k) ∧ Q (.lst ((Txt.split a b).map .str)) μ2
theorem de_split (ho : DE X o Fo) (he : DE X e Fe) (hs : starEach [e] X.env = [(false, eval e X.env)] := by rfl) (hbase : attributeBase o "split" X.env (eval o X.env) = eval o X.env := by rfl) (hline : (apos.endLine == pos.line) = true := by rfl) :
    DE X (.Call (.Attribute o "split" apos) [e] [] pos) (dSplit Fo Fe) := by
  refine weakE (pe_m1 F.slot_str_split F.type_str_split mt_split ho he hs hbase hline) fun σ H Q ⟨ρ, μ, Qd, s, h, kk⟩ => Lift.go (F := Fo) s h fun x μ1 v H1 ⟨a, ex, g1⟩ s1 n1 r1 => ?_
  subst ex
  cases r1
  refine ⟨⟨a, rfl⟩, Lift.go (F := Fe) s1 g1 fun y μ2 v2 H2 ⟨b, ey, hb, hz, hz2, so, g⟩ s2 n2 r2 => ?_⟩
  subst ey
  cases r2
  refine ⟨a, b, rfl, rfl, hb, hz, fun p hp => ?_⟩
  have n3 : Nx X.K H2 μ2 (upd H2 p (.lst ((Txt.split a b).map V.str))) μ2 := Nx.new s2.wd hp
  exact kk _ μ2 _ _ g ((n1.trans n2).trans n3) (.lst (new_at (s2.wd.free hp)) (rp_strs so) (by rw [List.length_map]; exact hz2))
/-- x.lstrip(signs) -/
def dLstrip (Fo Fe : TF D) : TF D := fun ρ μ Q => Fo ρ μ fun x μ1 => ∃ a : Str, x = .str a ∧ Fe ρ μ1 fun y μ2 => ∃ b : Str, y = .str b ∧ SOk (Txt.lstripChars a b) ∧ Q (.str (Txt.lstripChars a b)) μ2
theorem de_lstrip (ho : DE X o Fo) (he : DE X e Fe) (hs : starEach [e] X.env = [(false, eval e X.env)] := by rfl) (hbase : attributeBase o "lstrip" X.env (eval o X.env) = eval o X.env := by rfl) (hline : (apos.endLine == pos.line) = true := by rfl) :
    DE X (.Call (.Attribute o "lstrip" apos) [e] [] pos) (dLstrip Fo Fe) := by
  refine weakE (pe_m1 F.slot_str_lstrip F.type_str_lstrip mt_lstripChars ho he hs hbase hline) fun σ H Q ⟨ρ, μ, Qd, s, h, kk⟩ => Lift.go (F := Fo) s h fun x μ1 v H1 ⟨a, ex, g1⟩ s1 n1 r1 => ?_
  subst ex
  cases r1 with
  | str _ ha =>
    refine ⟨⟨a, rfl⟩, Lift.go (F := Fe) s1 g1 fun y μ2 v2 H2 ⟨b, ey, so, g⟩ s2 n2 r2 => ?_⟩
    subst ey
    cases r2
    exact ⟨a, b, rfl, rfl, ha.1, kk _ μ2 _ H2 g (n1.trans n2) (.str _ so)⟩
end
end DL
end

-- part DL13
section
/-! range with the step -1, a text times an int, int(text), at the data layer -/
namespace DL
open PySem L2
section
variable {K : PySem.W.Frag}
/-- i, i - 1, .. down to j + 1 -/
def dwnD (i : Int) (n : Nat) : List D := (List.range n).map fun (k : Nat) => .int (i + (k : Nat) * (-1))
theorem yields_c {H : Hp} {μ : Mu} {lo : Int} {n : Nat} (hz : n ≤ sizeLine) : Yields K (Itc lo (-1) n) H μ (dwnD lo n) := ⟨by simpa [dwnD] using hz, fun H' μ' m i => by
  refine ⟨fun hi => ?_, fun d hd => ?_⟩
  · show n ≤ i
    simpa [dwnD] using hi
  · have hi : i < n := by
      have := (List.getElem?_eq_some_iff.mp hd).1
      simpa [dwnD] using this
    refine ⟨hi, fun x H2 ⟨e, y⟩ => ?_⟩
    subst e; subst y
    have : d = .int (lo + (i : Nat) * (-1)) := by
      unfold dwnD at hd
      rw [List.getElem?_map, List.getElem?_range hi] at hd
      exact (Option.some.inj hd).symm
    subst this
    exact ⟨Nx.refl m.wd, .int _⟩⟩
end
def iRg3 (A : TF (List D)) : TF (List D) := fun ρ μ Q => A ρ μ fun ds μ1 => ∃ i j : Int, ds = [.int i, .int j, .int (-1)] ∧ smI i ∧ smI j ∧ Q (dwnD i (i - j).toNat) μ1
theorem rp3 {K : PySem.W.Frag} {G : Hp} {vs : List V} {d e f : D} (r : RpAll K G vs [d, e, f]) : ∃ v u t, vs = [v, u, t] ∧ Rp K G v d ∧ Rp K G u e ∧ Rp K G t f := by
  cases r with
  | cons r1 r =>
    obtain ⟨u, t, rfl, r2, r3⟩ := rp2 r
    exact ⟨_, u, t, rfl, r1, r2, r3⟩
section
variable {X : Cx} {tg : Expr}
theorem di_rg3 {a b c : Expr} {A : TF (List D)} {p pos : Pos} (hg : Gl X "range") (hm : X.mg "range" = none) (ha : DA X [a, b, c] A) (hs : starEach [a, b, c] X.env = (false, eval a X.env) :: starEach [b, c] X.env := by rfl) (hpl : (backTo pos (starEach [b, c] X.env)).any (·.1) = false := by rfl) :
    DI X tg (.Call (.Name "range" p) [a, b, c] [] pos) (iRg3 A) :=
  weakI (pi_range3 hg hm ha hs hpl) fun σ H R ⟨ρ, μ, Qd, s, hf, k⟩ => Lift.go s hf fun ds μ1 vs H1 ⟨i, j, e, h1, h2, g1⟩ s1 n1 r1 => by
    subst e
    obtain ⟨v, u, t, rfl, r, r', r''⟩ := rp3 r1
    cases r; cases r'; cases r''
    exact ⟨i, j, -1, _, rfl, RgC.neg h1.a.1 h1.a.2 h2.a.1 h2.a.2, k _ μ1 _ H1 g1 n1 (yields_c (h2.z2 h1))⟩
/-- a text of one sign, times an int -/
def fMulS : F2 := fun _ x y P => match x, y with
  | .str a, .int n => a.length = 1 ∧ 0 ≤ n ∧ n ≤ 1000 ∧ SOk ⟨(List.replicate n.toNat (a.cps.getD 0 0)).toArray⟩ ∧ P (.str ⟨(List.replicate n.toNat (a.cps.getD 0 0)).toArray⟩)
  | _, _ => False
def rMulS : R2 := fun x y H Q => ∃ (a : Str) (n : Int), x = .str a ∧ y = .int n ∧ a.length = 1 ∧ 0 ≤ n ∧ n ≤ 1000 ∧ Q (.str ⟨(List.replicate n.toNat (a.cps.getD 0 0)).toArray⟩) H
theorem foldl_rep (c : Nat) : ∀ (n : Nat) (acc : Array Nat), (List.replicate n #[c]).foldl (· ++ ·) acc = acc ++ (List.replicate n c).toArray
  | 0, acc => by simp
  | n + 1, acc => by
    rw [List.replicate_succ, List.foldl_cons, foldl_rep c n]
    apply Array.toList_inj.mp
    simp [List.replicate_succ]
theorem op_mulS : OpR X (binaryOp .Mult) rMulS := by
  intro pins s σ H x y v u Q I rx ry h
  obtain ⟨a, n, rfl, rfl, ha, h0, h1, q⟩ := h
  obtain ⟨t, rfl⟩ := rx
  obtain ⟨t', rfl⟩ := ry
  have e : a.cps = #[a.cps.getD 0 0] := by
    have hs : a.cps.size = 1 := ha
    apply Array.ext
    · simpa using hs
    · intro i h2 h3
      have : i = 0 := by simp at h3; exact h3
      subst this
      simp [Array.getD, hs]
  have hz : a.length * n.toNat ≤ 1000 := by rw [ha]; omega
  refine P.mul_str (by have h2 : ¬ n < -(2 ^ 63 : Int) := by omega
                       have h3 : ¬ n ≥ 2 ^ 63 := by omega
                       rw [decide_eq_false h2, decide_eq_false h3]; rfl) (fun hn _ => ?_) (fun _ _ => ?_) ?_
  · rw [ha]
    have : (1 : Int) ≤ (2 ^ 63 - 1) / n := by
      rw [Int.le_ediv_iff_mul_le (by omega)]; omega
    omega
  · unfold Builtin.Str.tooLong
    exact decide_eq_false (Nat.not_lt.mpr (Nat.le_trans hz (by decide)))
  · by_cases hn : n < 1
    · have hn0 : n = 0 := by omega
      subst hn0
      rw [if_pos (by decide)]
      exact ⟨by decide, .str _, H, I.tok _, ⟨_, rfl⟩, q⟩
    · rw [if_neg hn]
      by_cases h2 : (n == 1 || a.length == 0) = true
      · rw [if_pos h2]
        have hn1 : n = 1 := by
          rcases Bool.or_eq_true _ _ ▸ h2 with h | h
          · exact eq_of_beq h
          · rw [ha] at h; cases h
        subst hn1
        have e3 : (⟨(List.replicate (1 : Int).toNat (a.cps.getD 0 0)).toArray⟩ : Str) = a := by
          obtain ⟨b⟩ := a
          exact congrArg Str.mk e.symm
        rw [e3] at q
        exact ⟨.str a, H, I, ⟨_, rfl⟩, q⟩
      · rw [if_neg h2]
        have e3 : (⟨(List.replicate n.toNat a.cps).foldl (· ++ ·) #[]⟩ : Str) = ⟨(List.replicate n.toNat (a.cps.getD 0 0)).toArray⟩ := by
          rw [e, foldl_rep]
          simp
        rw [e3]
        exact ⟨Nat.le_trans (by show (List.replicate n.toNat (a.cps.getD 0 0)).toArray.size ≤ 1000; rw [List.size_toArray, List.length_replicate]; omega) (by decide : 1000 ≤ sizeLine), .str _, H, I.tok _, ⟨_, rfl⟩, q⟩
theorem od_mulS {K : PySem.W.Frag} : OpD K rMulS fMulS := by
  intro x y vx vy H μ P Q w rx ry q k
  cases rx <;> cases ry <;> try exact q.elim
  rename_i a ha n
  exact ⟨a, n, rfl, rfl, q.1, q.2.1, q.2.2.1, k _ _ H q.2.2.2.2 (Nx.refl w) (.str _ q.2.2.2.1)⟩
/-- int(x), an int or a text -/
def fIntS : FB := fun _ ds P => match ds with
  | [.str a] => ∃ n, PySem.intText? a = some n ∧ a.length ≤ 640 ∧ P (.int n)
  | _ => False
theorem call_intS : CallR X (.type "int") (fun xs H Q => ∃ a n, xs = [.str a] ∧ PySem.intText? a = some n ∧ a.length ≤ 640 ∧ Q (.int n) H) := by
  intro pins s σ H xs us Q I r h
  obtain ⟨a, n, rfl, hn, hl, q⟩ := h
  obtain ⟨u, rfl, r1⟩ := vals1 r
  obtain ⟨t, rfl⟩ := r1
  exact PySem.W.KIN.call_text hn hl ⟨.int n, H, I.tok _, ⟨_, rfl⟩, q⟩
theorem cd_intS {K : PySem.W.Frag} : CallD K (fun xs H Q => ∃ a n, xs = [.str a] ∧ PySem.intText? a = some n ∧ a.length ≤ 640 ∧ Q (.int n) H) fIntS := by
  intro ds vs H μ P Q w r q k
  unfold fIntS at q
  split at q
  · obtain ⟨v, rfl, r1⟩ := rp1 r
    cases r1
    obtain ⟨n, hn, hl, q⟩ := q
    exact ⟨_, n, rfl, hn, hl, k _ _ H q (Nx.refl w) (.int n)⟩
  · exact q.elim
end
end DL
namespace DL
open PySem L2
section
variable {X : Cx} {pos : Pos}
theorem chn_go {K : PySem.W.Frag} {r r' : R2} {f f' : F2} {Fa Fb Fc : TF D} {σ : L2.St} {H : Hp} {Q : VK} (hf : OpD K r f) (hf' : OpD K r' f') (h : tD K (dChn f f' Fa Fb Fc) σ H Q) : tChain r r' (tD K Fa) (tD K Fb) (tD K Fc) σ H Q := by
  obtain ⟨ρ, μ, Qd, s, g, k⟩ := h
  refine Lift.go s g fun x μ1 vx H1 g1 s1 n1 r1 => Lift.go s1 g1 fun y μ2 vy H2 g2 s2 n2 r2 => hf x y vx vy H2 μ2 _ _ s2.wd (r1.mono n2.ext) r2 g2 fun z vz H3 ⟨b, e, g3⟩ n3 r3 => ?_
  subst e
  cases r3
  have s3 := s2.next n3
  have n123 := (n1.trans n2).trans n3
  refine ⟨b, rfl, ?_⟩
  cases b with
  | false => exact k _ μ2 _ H3 g3 n123 (.bl false)
  | true => exact Lift.go s3 g3 fun w' μ4 vw H4 g4 s4 n4 r4 => hf' y w' vy vw H4 μ4 _ _ s4.wd (r2.mono (n3.trans n4).ext) r4 g4 fun z vz H5 p n5 r5 => k z μ4 vz H5 p ((n123.trans n4).trans n5) r5
theorem dt_chain {op op' : CmpOp} {r r' : R2} {f f' : F2} {a b c : Expr} {Fa Fb Fc : TF D} (ho : OpR X (compareOp op) r) (ho' : OpR X (compareOp op') r') (hf : OpD X.K r f) (hf' : OpD X.K r' f') (ha : DE X a Fa) (hb : DE X b Fb) (hc : DE X c Fc) (hm : lastMarks [op, op'] [b, c] = false := by rfl) :
    DT X (.Compare a [op, op'] [b, c] pos) (dTest (dChn f f' Fa Fb Fc)) :=
  weakT (pt_chain ho ho' ha hb hc hm) fun σ H Q ⟨ρ, μ, Qd, s, hh, k⟩ => chn_go hf hf' ⟨ρ, μ, _, s, hh, fun d μ1 v H1 ⟨c, e, g⟩ n r => by subst e; cases r; exact ⟨c, rfl, k c μ1 c H1 g n rfl⟩⟩
end
end DL
end

-- part DLX
section
/-! defs that raise, at the data layer: an error tells a place and a message -/
namespace DL
open PySem L2
abbrev XD := Int → Str → Mu → Prop
abbrev TFX (β : Type) := Env → Mu → (β → Mu → Prop) → XD → Prop
def xfs (p : Int) (m : Str) : List (Str × V) := [(("message" : Str), V.str m), (("place" : Str), V.int p)]
/-- what holds where an error leaves -/
def ExOk (TE : Addr) (K : PySem.W.Frag) (H : Hp) (μ : Mu) (E : XK) (Ed : XD) : Prop :=
  ∀ p m μ' H' a, Ed p m μ' → Nx K H μ H' μ' → hide H' μ' a = some (.xd (xfs p m)) → SOk m → E (.ref TE) (some a) H'
theorem ExOk.after {TE : Addr} {K : PySem.W.Frag} {H H1 : Hp} {μ μ1 : Mu} {E : XK} {Ed : XD} (x : ExOk TE K H μ E Ed) (n : Nx K H μ H1 μ1) : ExOk TE K H1 μ1 E Ed := fun p m μ' H' a e n' h z => x p m μ' H' a e (n.trans n') h z
theorem ExOk.forget {TE : Addr} {K : PySem.W.Frag} {H : Hp} {μ : Mu} {E : XK} {Ed : XD} (x : ExOk TE K H μ E Ed) : ExOk TE K H μ E (fun p m μ' => ∃ μ2, Sub μ2 μ' ∧ Ed p m μ2) := fun p m μ' H' a ⟨μ2, sb, e⟩ n' h z => x p m μ2 H' a e (n'.forget sb) (sb.hide _ _ h) z
section
variable {α β : Type}
def LiftX (TE : Addr) (E : XK) (K : PySem.W.Frag) (R : Hp → α → β → Prop) (F : TFX β) : L2.St → Hp → (α → Hp → Prop) → Prop := fun σ H Q =>
  ∃ (ρ : Env) (μ : Mu) (Qd : β → Mu → Prop) (Ed : XD), StOk K H μ σ ρ ∧ F ρ μ Qd Ed ∧ (∀ d μ' v H', Qd d μ' → Nx K H μ H' μ' → R (hide H' μ') v d → Q v H') ∧ ExOk TE K H μ E Ed
theorem LiftX.go {TE : Addr} {E : XK} {K : PySem.W.Frag} {R : Hp → α → β → Prop} {F : TFX β} {σ : L2.St} {ρ : Env} {H : Hp} {μ : Mu} {G : β → Mu → Prop} {Ed : XD} {Q : α → Hp → Prop} (s : StOk K H μ σ ρ) (hf : F ρ μ G Ed)
    (k : ∀ d μ' v H', G d μ' → StOk K H' μ' σ ρ → Nx K H μ H' μ' → R (hide H' μ') v d → Q v H') (x : ExOk TE K H μ E Ed) : LiftX TE E K R F σ H Q :=
  ⟨ρ, μ, G, Ed, s, hf, fun d μ' v H' g n r => k d μ' v H' g (s.next n) n r, x⟩
end
abbrev RpR (K : PySem.W.Frag) : Hp → V → D → Prop := fun G v d => Rp K G v d
abbrev RpA (K : PySem.W.Frag) : Hp → List V → List D → Prop := fun G vs ds => RpAll K G vs ds
abbrev DEX (X : Cx) (TE : Addr) (E : XK) (e : Expr) (F : TFX D) : Prop := PE X e (LiftX TE E X.K (RpR X.K) F)
abbrev DAX (X : Cx) (TE : Addr) (E : XK) (es : List Expr) (A : TFX (List D)) : Prop := PA X es (LiftX TE E X.K (RpA X.K) A)
/-- a def's wish, with what it may raise -/
abbrev CTX := List D → Mu → (D → Mu → Prop) → XD → Prop
def spX (TE : Addr) (K : PySem.W.Frag) (C : CTX) : Sp := fun vs H Q E => ∃ (ds : List D) (μ : Mu) (Qd : D → Mu → Prop) (Ed : XD), RpAll K (hide H μ) vs ds ∧ Wd K H μ ∧ C ds μ Qd Ed ∧ (∀ d μ' v H', Qd d μ' → Nx K H μ H' μ' → Rp K (hide H' μ') v d → Q v H') ∧ ExOk TE K H μ E Ed
section
variable {X : Cx} {TE : Addr} {E : XK} {e a b : Expr} {es : List Expr} {F Fa Fb : TFX D} {A : TFX (List D)} {pos p apos : Pos}
def fOf {β : Type} (F : TF β) : TFX β := fun ρ μ Q _ => F ρ μ Q
theorem xe_of {F : TF D} (h : DE X e F) : DEX X TE E e (fOf F) := weakE h fun σ H Q ⟨ρ, μ, Qd, Ed, s, hf, k, x⟩ => ⟨ρ, μ, Qd, s, hf, k⟩
def aNilX : TFX (List D) := fun _ μ Q _ => Q [] μ
def aConsX (F : TFX D) (A : TFX (List D)) : TFX (List D) := fun ρ μ Q Ed => F ρ μ (fun d μ1 => A ρ μ1 (fun ds μ2 => Q (d :: ds) μ2) Ed) Ed
theorem xa_nil : DAX X TE E [] aNilX := weakA pa_nil fun σ H Q ⟨ρ, μ, Qd, Ed, s, hf, k, x⟩ => k [] μ [] H hf (Nx.refl s.wd) .nil
theorem xa_cons (h : DEX X TE E e F) (hr : DAX X TE E es A) (hs : starEach (e :: es) X.env = (false, eval e X.env) :: starEach es X.env := by rfl) : DAX X TE E (e :: es) (aConsX F A) :=
  weakA (pa_cons h hr hs) fun σ H Q ⟨ρ, μ, Qd, Ed, s, hf, k, x⟩ => LiftX.go s hf (fun d μ1 v H1 g1 s1 n1 r1 => LiftX.go s1 g1 (fun ds μ2 vs H2 g2 s2 n2 r2 => k _ μ2 _ H2 g2 (n1.trans n2) (.cons (r1.mono n2.ext) r2)) (x.after n1)) x
def dTupX (A : TFX (List D)) : TFX D := fun ρ μ Q Ed => A ρ μ (fun ds μ1 => ds.length ≤ sizeLine ∧ Q (.tup ds) μ1) Ed
def dLstMX (A : TFX (List D)) : TFX D := fun ρ μ Q Ed => A ρ μ (fun ds μ1 => ds.length ≤ sizeLine ∧ ∀ p, μ1 p = none → Q (.ptr p) (μ1.put p (.lst ds))) Ed
theorem xe_tup {x1} (h : DAX X TE E es A) : DEX X TE E (.Tuple es x1 pos) (dTupX A) :=
  weakE (pe_tup h) fun σ H Q ⟨ρ, μ, Qd, Ed, s, hf, k, x⟩ => LiftX.go s hf (fun ds μ1 vs H1 ⟨z, g⟩ s1 n1 r => ⟨by rw [r.length]; exact z, fun p hp => by
    have n2 : Nx X.K H1 μ1 (upd H1 p (.tup vs)) μ1 := Nx.new s1.wd hp
    exact k _ μ1 _ _ g (n1.trans n2) (.tup (new_at (s1.wd.free hp)) (r.mono n2.ext) z)⟩) x
theorem xe_lstM (h : DAX X TE E es A) : DEX X TE E (.List es pos) (dLstMX A) :=
  weakE (pe_lst h) fun σ H Q ⟨ρ, μ, Qd, Ed, s, hf, k, x⟩ => LiftX.go s hf (fun ds μ1 vs H1 ⟨z, g⟩ s1 n1 r => ⟨by rw [r.length]; exact z, fun p hp => by
    have n2 : Nx X.K H1 μ1 (upd H1 p (.lst vs)) (μ1.put p (.lst ds)) := Nx.put s1.wd (fun _ => hp) ⟨vs, rfl, r, z⟩
    exact k _ _ _ _ (g p (s1.wd.free hp)) (n1.trans n2) (.ptr p)⟩) x
/-! ### calls -/
def dCallX (C : CTX) (A : TFX (List D)) : TFX D := fun ρ μ Q Ed => A ρ μ (fun ds μ1 => C ds μ1 Q Ed) Ed
/-- a def that raises nothing, its arguments may -/
def dCallN (C : CT) (A : TFX (List D)) : TFX D := fun ρ μ Q Ed => A ρ μ (fun ds μ1 => C ds μ1 Q) Ed
theorem callX_go {σ : L2.St} {H : Hp} {Q : VK} {K : PySem.W.Frag} {C : CTX} (h : LiftX TE E K (RpR K) (dCallX C A) σ H Q) : tCall (spX TE K C) [] E (LiftX TE E K (RpA K) A) σ H Q := by
  obtain ⟨ρ, μ, Qd, Ed, s, hf, k, x⟩ := h
  exact LiftX.go s hf (fun ds μ1 vs H1 g s1 n1 r => ⟨ds, μ1, Qd, Ed, by rw [List.append_nil]; exact r, s1.wd, g, fun d μ' v H' q n r => k d μ' v H' q (n1.trans n) r, x.after n1⟩) x
theorem callN_go {σ : L2.St} {H : Hp} {Q : VK} {K : PySem.W.Frag} {C : CT} (h : LiftX TE E K (RpR K) (dCallN C A) σ H Q) : tCall (spD K C) [] E (LiftX TE E K (RpA K) A) σ H Q := by
  obtain ⟨ρ, μ, Qd, Ed, s, hf, k, x⟩ := h
  exact LiftX.go s hf (fun ds μ1 vs H1 g s1 n1 r => ⟨ds, μ1, Qd, by rw [List.append_nil]; exact r, s1.wd, g, fun d μ' v H' q n r => k d μ' v H' q (n1.trans n) r⟩) x
theorem xe_call {k : Nat} {f : Addr} {fd : FuncData} {ps : List Str} {C : CTX} {CX : CXT} {x : Str} (F : FnOk X.prog X.w X.K X.mg X.base CX k f fd ps (spX TE X.K C)) (hr : Room k X.A) (hg : Gl X x) (hm : X.mg x = some (.ref f)) (hk : PySem.W.keepIn X.K (.ref f) = true)
    (hb : Binds X.K fd ps []) (hx : Passes CX X E) (ha : DAX X TE E (e :: es) A) (hdb : (x == ("__debug__" : Str)) = false := by decide) (he : starEach (e :: es) X.env = (false, eval e X.env) :: starEach es X.env := by rfl) (hpl : (backTo pos (starEach es X.env)).any (·.1) = false := by rfl) :
    DEX X TE E (.Call (.Name x p) (e :: es) [] pos) (dCallX C A) := weakE (pe_call F hr hg hm hk hb .nil hx ha hdb he hpl) fun _ _ _ h => callX_go h
theorem xe_callN {k : Nat} {f : Addr} {fd : FuncData} {ps : List Str} {C : CT} {CX : CXT} {x : Str} (F : FnOk X.prog X.w X.K X.mg X.base CX k f fd ps (spD X.K C)) (hr : Room k X.A) (hg : Gl X x) (hm : X.mg x = some (.ref f)) (hk : PySem.W.keepIn X.K (.ref f) = true)
    (hb : Binds X.K fd ps []) (hx : Passes CX X E) (ha : DAX X TE E (e :: es) A) (hdb : (x == ("__debug__" : Str)) = false := by decide) (he : starEach (e :: es) X.env = (false, eval e X.env) :: starEach es X.env := by rfl) (hpl : (backTo pos (starEach es X.env)).any (·.1) = false := by rfl) :
    DEX X TE E (.Call (.Name x p) (e :: es) [] pos) (dCallN C A) := weakE (pe_call F hr hg hm hk hb .nil hx ha hdb he hpl) fun _ _ _ h => callN_go h
end
section
variable {X : Cx} {TE : Addr} {E : XK} {C : Addr} {m : Str} {o e : Expr} {es : List Expr} {Fo : TF D} {A : TFX (List D)} {pos apos p : Pos} {k : Nat} {g : Addr} {fd : FuncData} {ps : List Str} {Ct : CTX} {CX : CXT}
/-- o.m(..), which may raise -/
def dMethX (C : Addr) (m : Str) (Ct : CTX) (Fo : TF D) (A : TFX (List D)) : TFX D := fun ρ μ Q Ed => Fo ρ μ fun x μ1 => ∃ a fs, x = .ptr a ∧ μ1 a = some (.ins C fs) ∧ fs.lookup m = none ∧ A ρ μ1 (fun ds μ2 => Ct (.ptr a :: ds) μ2 Q Ed) Ed
theorem xe_meth {pl : Sem Bool} (c : Cls X.K C) (hm : Meth X.K C m g) (F : FnOk X.prog X.w X.K X.mg X.base CX k g fd ps (spX TE X.K Ct)) (hr : Room k X.A) (hb : Binds X.K fd ps []) (hx : Passes CX X E) (ho : DE X o Fo) (ha : DAX X TE E (e :: es) A)
    (hst : starEach (e :: es) X.env = (false, eval e X.env) :: starEach es X.env := by rfl) (hpl : (backTo pos (starEach es X.env)).any (·.1) = false := by rfl)
    (ht : eval (.Call (.Attribute o m apos) (e :: es) [] pos) X.env = (do
      let ov ← eval o X.env
      standAt apos.atName
      let (f, fst) ← holding [ov] (getMethod ov m pl)
      callWith pos f fst (backTo pos (starEach (e :: es) X.env)) (backToKw pos (keywordEach [] X.env))) := by rfl) :
    DEX X TE E (.Call (.Attribute o m apos) (e :: es) [] pos) (dMethX C m Ct Fo A) := weakE (pe_meth (pl := pl) ho c hm F hr hb .nil hx ha hst hpl ht) fun σ H Q ⟨ρ, μ, Qd, Ed, s, hf, kk, x⟩ => by
  refine Lift.go (F := Fo) s hf fun y μ1 v H1 ⟨a, fs, ex, hm, hl, g1⟩ s1 n1 r1 => ?_
  subst ex
  cases r1
  obtain ⟨dx, gs, h1, h2⟩ := s1.wd a _ hm
  refine ⟨a, dx, gs, rfl, h1, fs_none h2 hl, LiftX.go (F := A) s1 g1 (fun ds μ2 vs H2 g2 s2 n2 r2 => ?_) (x.after n1)⟩
  exact ⟨.ptr a :: ds, μ2, Qd, Ed, by rw [List.append_nil]; exact .cons (.ptr a) r2, s2.wd, g2, fun d μ' v H' q n r => kk d μ' v H' q ((n1.trans n2).trans n) r, x.after (n1.trans n2)⟩
theorem xe_meth0 {pl : Sem Bool} (c : Cls X.K C) (hm : Meth X.K C m g) (F : FnOk X.prog X.w X.K X.mg X.base CX k g fd ps (spX TE X.K Ct)) (hr : Room k X.A) (hb : Binds X.K fd ps []) (hx : Passes CX X E) (ho : DE X o Fo)
    (ht : eval (.Call (.Attribute o m apos) [] [] pos) X.env = (do
      let ov ← eval o X.env
      standAt apos.atName
      let (f, fst) ← holding [ov] (getMethod ov m pl)
      callWith pos f fst (backTo pos (starEach [] X.env)) (backToKw pos (keywordEach [] X.env))) := by rfl) :
    DEX X TE E (.Call (.Attribute o m apos) [] [] pos) (dMethX C m Ct Fo aNilX) := weakE (pe_meth0 (pl := pl) ho c hm F hr hb .nil hx ht) fun σ H Q ⟨ρ, μ, Qd, Ed, s, hf, kk, x⟩ => by
  refine Lift.go (F := Fo) s hf fun y μ1 v H1 ⟨a, fs, ex, hm', hl, g1⟩ s1 n1 r1 => ?_
  subst ex
  cases r1
  obtain ⟨dx, gs, h1, h2⟩ := s1.wd a _ hm'
  exact ⟨a, dx, gs, rfl, h1, fs_none h2 hl, [.ptr a], μ1, Qd, Ed, .cons (.ptr a) .nil, s1.wd, g1, fun d μ' v H' q n r => kk d μ' v H' q (n1.trans n) r, x.after n1⟩
end

/-! ### statements -/
structure EndsX extends EndsD where
  ex : XD
abbrev TSX := EndsX → Env → Mu → Prop
def tSX (TE : Addr) (W : XK) (K : PySem.W.Frag) (G : TSX) : TS := fun D' σ H => ∃ (ρ : Env) (μ : Mu) (E : EndsX), StOk K H μ σ ρ ∧ G E ρ μ ∧ Conn K H μ E.toEndsD D' ∧ ExOk TE K H μ W E.ex
abbrev DSX (X : Cx) (TE : Addr) (W : XK) (st : Stmt) (G : TSX) : Prop := PS X st (tSX TE W X.K G)
abbrev DSsX (X : Cx) (TE : Addr) (W : XK) (st : List Stmt) (G : TSX) : Prop := PSs X st (tSX TE W X.K G)
section
variable {X : Cx} {TE : Addr} {W : XK} {pos : Pos} {st : Stmt} {rest : List Stmt} {G1 G2 : TSX} {e : Expr} {F : TFX D}
def xOf (G : TSD) : TSX := fun E ρ μ => G E.toEndsD ρ μ
theorem sx_of {G : TSD} (h : DS X st G) : DSX X TE W st (xOf G) := weakS h fun D' σ H ⟨ρ, μ, E, s, g, c, x⟩ => ⟨ρ, μ, E.toEndsD, s, g, c⟩
theorem ssx_of {G : TSD} (h : DSs X rest G) : DSsX X TE W rest (xOf G) := weakSs h fun D' σ H ⟨ρ, μ, E, s, g, c, x⟩ => ⟨ρ, μ, E.toEndsD, s, g, c⟩
def xNext : TSX := fun E ρ μ => E.nx ρ μ
def xSeq (G1 G2 : TSX) : TSX := fun E ρ μ => G1 { E with nx := G2 E } ρ μ
theorem ssx_nil : DSsX X TE W [] xNext := weakSs pss_nil fun D' σ H ⟨ρ, μ, E, s, g, c, x⟩ => c.nx ρ μ σ H g s (Nx.refl s.wd)
theorem ssx_one (h : DSX X TE W st G1) : DSsX X TE W [st] G1 := pss_one h
theorem ssx_cons (h1 : DSX X TE W st G1) (h2 : DSsX X TE W rest G2) : DSsX X TE W (st :: rest) (xSeq G1 G2) :=
  weakSs (pss_cons h1 h2) fun D' σ H ⟨ρ, μ, E, s, g, c, x⟩ => ⟨ρ, μ, { E with nx := G2 E }, s, g, ⟨fun ρ' μ' σ' H' g' s' n => ⟨ρ', μ', E, s', g', c.after n, x.after n⟩, c.rt, c.bk, c.ct⟩, x⟩
def xDrop (F : TFX D) : TSX := fun E ρ μ => F ρ μ (fun _ μ1 => E.nx ρ μ1) E.ex
theorem sx_expr (h : DEX X TE W e F) (hs : swapsWith e none pos.line X.env = pure false := by rfl) : DSX X TE W (.Expr e pos) (xDrop F) :=
  weakS (ps_expr h hs) fun D' σ H ⟨ρ, μ, E, s, g, c, x⟩ => LiftX.go s g (fun d μ1 v H1 g1 s1 n1 r1 => c.nx ρ μ1 σ H1 g1 s1 n1) x
def xRet (F : TFX D) : TSX := fun E ρ μ => F ρ μ E.rt E.ex
theorem sx_ret (h : DEX X TE W e F) : DSX X TE W (.Return (some e) pos) (xRet F) :=
  weakS (ps_ret h) fun D' σ H ⟨ρ, μ, E, s, g, c, x⟩ => LiftX.go s g (fun d μ1 v H1 g1 s1 n1 r1 => c.rt d μ1 v H1 g1 n1 r1) x
def xIf (A : TF Bool) (G1 G2 : TSX) : TSX := fun E ρ μ => A ρ μ fun b μ1 => if b = true then G1 E ρ μ1 else G2 E ρ μ1
theorem sx_if {c : Expr} {a b : List Stmt} {A : TF Bool} (hc : DT X c A) (ha : DSsX X TE W a G1) (hb : DSsX X TE W b G2) : DSX X TE W (.If c a b pos) (xIf A G1 G2) :=
  weakS (ps_if hc ha hb) fun D' σ H ⟨ρ, μ, E, s, g, c, x⟩ => Lift.go (F := A) (R := RB) s g fun d μ1 v H1 g1 s1 n1 e1 => by
    cases (show v = d from e1)
    cases d with
    | true => exact ⟨ρ, μ1, E, s1, g1, c.after n1, x.after n1⟩
    | false => exact ⟨ρ, μ1, E, s1, g1, c.after n1, x.after n1⟩
def xSet (i : Nat) (F : TFX D) : TSX := fun E ρ μ => F ρ μ (fun d μ1 => E.nx (ρ.set i (some d)) μ1) E.ex
theorem sx_set (i : Nat) {x : Str} {pos' : Pos} (hN : X.N.Nodup) (h : DEX X TE W e F) (hi : X.N[i]? = some x := by rfl) (hx : Loc X.env.scope x := by first | exact Or.inl rfl | exact Or.inr rfl) (hs : swapsWith e (some (.Name x pos')) pos.line X.env = pure false := by rfl)
    (hf : X.fn x = true ∨ X.env.scope.names.lookup x = some .local := by first | exact .inl rfl | exact .inr rfl | assumption) :
    DSX X TE W (.Assign [.Name x pos'] e pos) (xSet i F) :=
  weakS (ps_set hN hi hx h hs hf) fun D' σ H ⟨ρ, μ, E, s, g, c, x⟩ => LiftX.go s g (fun d μ1 v H1 g1 s1 n1 r1 => c.nx _ μ1 _ H1 g1 (s1.set r1 i) n1) x
def xFrz (i : Nat) (G : TSX) : TSX := fun E ρ μ => ∃ p ds, ρ[i]? = some (some (.ptr p)) ∧ μ p = some (.lst ds) ∧ G E (ρ.set i (some (.lst ds))) (μ.del p)
theorem ssx_frz (i : Nat) {sts : List Stmt} (h : DSsX X TE W sts G1) : DSsX X TE W sts (xFrz i G1) :=
  weakSs h fun D' σ H ⟨ρ, μ, E, s, ⟨p, ds, e, hp, g⟩, c, x⟩ => by
    obtain ⟨n, r⟩ := Nx.frz s.wd hp
    refine ⟨_, _, E, ?_, g, c.after n, x.after n⟩
    obtain ⟨v, hv, rv⟩ := s.env.2 i _ e
    cases rv
    have := (s.next n).set r i
    rw [set_get_self hv] at this
    exact this
/-- xs.append(e), e may raise -/
def xApp (Fo : TF D) (Fe : TFX D) : TSX := fun E ρ μ => Fo ρ μ fun x μ1 => ∃ p ds', x = .ptr p ∧ μ1 p = some (.lst ds') ∧ Fe ρ μ1 (fun y μ2 => ∃ ds, μ2 p = some (.lst ds) ∧ ds.length < sizeLine ∧ E.nx ρ (μ2.put p (.lst (ds ++ [y])))) E.ex
theorem sx_app {o : Expr} {Fo : TF D} {apos cpos : Pos} (ho : DE X o Fo) (he : DEX X TE W e F) (hbase : attributeBase o "append" X.env (eval o X.env) = eval o X.env := by rfl)
    (hfew : ((backTo cpos (starEach [e] X.env)).all (fun x => !x.1) && (backToKw cpos (keywordEach [] X.env)).all (fun x => x.1.isSome)
      && decide (([e] : List Expr).length + ([] : List Keyword).length + (if ([] : List Keyword).isEmpty then 0 else 1) < 30)) = true := by rfl)
    (hline : (apos.endLine == cpos.line) = true := by rfl) (hs : starEach [e] X.env = (false, eval e X.env) :: starEach [] X.env := by rfl) (hplain : (backTo cpos (starEach [] X.env)).any (·.1) = false := by rfl)
    (hsw : swapsWith (.Call (.Attribute o "append" apos) [e] [] cpos) none pos.line X.env = pure false := by rfl) : DSX X TE W (.Expr (.Call (.Attribute o "append" apos) [e] [] cpos) pos) (xApp Fo F) :=
  weakS (ps_expr (pe_bm PySem.F.plainAttrs_list PySem.F.slot_list_append PySem.F.type_list_append mt_append ho (pa_cons he pa_nil hs) hbase hfew hline hs hplain) hsw) fun D' σ H ⟨ρ, μ, E, s, f, c, xx⟩ =>
    Lift.go (F := Fo) s f fun x μ1 v H1 ⟨p, ds', ex, hp1, g1⟩ s1 n1 r1 => by
      subst ex
      cases r1
      obtain ⟨xs', e1, _, _⟩ := s1.wd p _ hp1
      refine ⟨.inl ⟨rfl, _, SqL.of e1⟩, LiftX.go (F := F) s1 g1 (fun y μ2 vy H2 ⟨ds, hp2, hl, g2⟩ s2 n2 r2 => ?_) (xx.after n1)⟩
      obtain ⟨xs, e2, ra, za⟩ := s2.wd p _ hp2
      have n3 : Nx X.K H2 μ2 (upd H2 p (.lst (xs ++ [vy]))) (μ2.put p (.lst (ds ++ [y]))) := Nx.put s2.wd (fun z => by rw [hp2] at z; cases z) ⟨_, rfl, ra.append (.cons r2 .nil), by rw [List.length_append, List.length_singleton]; omega⟩
      exact ⟨p, xs, vy, rfl, rfl, e2, by rw [ra.length]; exact hl, c.nx ρ _ σ _ g2 (s2.next n3) ((n1.trans n2).trans n3)⟩
def xWhile (A : TF Bool) (body : TSX) : TSX := fun E ρ μ => ∃ I : Nat → Env → Mu → Prop, (∃ m, I m ρ μ) ∧
  ∀ m ρ' μ', I m ρ' μ' → A ρ' μ' fun b μ2 => if b = true then body { E with nx := fun ρ2 μ3 => ∃ m', m' < m ∧ I m' ρ2 μ3, ct := fun ρ2 μ3 => ∃ m', m' < m ∧ I m' ρ2 μ3, bk := E.nx } ρ' μ2 else E.nx ρ' μ2
theorem sx_while {c : Expr} {body : List Stmt} {A : TF Bool} {G : TSX} (hp : PassesOwn (model X.prog X.w) X.A X.env X.xe) (hc : DT X c A) (hb : DSsX X TE W body G) : DSX X TE W (.While c body [] pos) (xWhile A G) := by
  refine weakS (ps_while hp hc hb) fun D' σ H ⟨ρ, μ, E, s, ⟨I, ⟨m0, i0⟩, turn⟩, cn, x⟩ => ?_
  refine ⟨fun m σ' H' => ∃ ρ' μ', I m ρ' μ' ∧ StOk X.K H' μ' σ' ρ' ∧ Nx X.K H μ H' μ', ⟨m0, ρ, μ, i0, s, Nx.refl s.wd⟩, ?_⟩
  rintro m σ' H' ⟨ρ', μ', hI, s', n'⟩
  refine Lift.go (F := A) (R := RB) s' (turn m ρ' μ' hI) fun b μ2 v H2 g2 s2 n2 e2 => ?_
  cases (show v = b from e2)
  cases b with
  | true =>
    refine ⟨fun σ3 H3 => ∃ m', m' < m ∧ ∃ ρ3 μ3, I m' ρ3 μ3 ∧ StOk X.K H3 μ3 σ3 ρ3 ∧ Nx X.K H μ H3 μ3, fun σ3 H3 ⟨m', a, b⟩ => ⟨m', a, b⟩, ρ', μ2, _, s2, g2, ?_, x.after (n'.trans n2)⟩
    have nn := n'.trans n2
    exact ⟨fun ρ4 μ4 σ4 H4 ⟨m', a, b⟩ s4 n4 => ⟨m', a, ρ4, μ4, b, s4, nn.trans n4⟩, fun d μ4 v H4 a n4 r4 => cn.rt d μ4 v H4 a (nn.trans n4) r4, fun ρ4 μ4 σ4 H4 a s4 n4 => cn.nx ρ4 μ4 σ4 H4 a s4 (nn.trans n4), fun ρ4 μ4 σ4 H4 ⟨m', a, b⟩ s4 n4 => ⟨m', a, ρ4, μ4, b, s4, nn.trans n4⟩⟩
  | false => exact cn.nx ρ' μ2 σ' H2 g2 s2 (n'.trans n2)
end
/-! ### a def that raises -/
theorem Fun.okXf {P : Program} {w : World} {K : PySem.W.Frag} {mg : Str → Option Value} {base : Heap} {TE : Addr} {x qual : Str} {st : Stmt} {f : Addr} {fd : FuncData} {N ps : List Str} {k : Nat} {C : CTX} {G : TSX} (F : L2.Fun K x qual st f fd) (S : FnScope N ps (defScope st))
    (body : ∀ (cdv : Value) (A : Around) (outer : List PySem.Env) (s : Shared) (H : Hp) (E : XK), Room k (A.deeper (PyProof.Rows.envOfC qual (defScope st) s.heap.objs.size f cdv)) → DSsX (cxOf (L2.CX P w) P w K mg base N qual (defScope st) f cdv A outer s H E) TE E (defBody st) G)
    (len : ∀ ds μ Q Ed, C ds μ Q Ed → ds.length = ps.length)
    (h : ∀ ds μ Q Ed, C ds μ Q Ed → G { nx := fun _ μ' => ∃ μ2, Sub μ2 μ' ∧ Q .non μ2, rt := fun d μ' => ∃ μ2, Sub μ2 μ' ∧ Q d μ2, ex := fun p m μ' => ∃ μ2, Sub μ2 μ' ∧ Ed p m μ2 } (startD N ds) μ) : FnOk P w K mg base (L2.CX P w) (k + 1) f fd ps (spX TE K C) := by
  refine F.okX S (fun vs H Q E ⟨ds, μ, Qd, Ed, r, _, c, _⟩ => r.length.trans (len ds μ Qd Ed c)) fun cdv A outer s H vs Q E hr ⟨ds, μ, Qd, Ed, r, w', c, kk, x⟩ => ?_
  refine ⟨_, body cdv A outer s H E hr, startD N ds, μ, _, ⟨renv_start r, w'⟩, h ds μ Qd Ed c, ⟨fun ρ' μ' σ' H' ⟨μ2, sb, g⟩ s' n => kk .non μ2 .non H' g (n.forget sb) .non, fun d μ' v H' ⟨μ2, sb, g⟩ n r' => kk d μ2 v H' g (n.forget sb) (r'.mono sb.hide), fun _ _ _ _ z => z.elim, fun _ _ _ _ z => z.elim⟩, x.forget⟩
end DL
end

-- part DLE
section
/-! an error class with place and message: made, raised, caught, asked -/
namespace DL
open PySem L2
/-- what the top has written of the error class at C (base S), its __init__ at fI, its __str__ at fS -/
structure ETx (K : PySem.W.Frag) (mg : Str → Option Value) (C S fI fS : Addr) : Prop where
  gC : mg "TextError" = some (.ref C)
  gS : mg "SnapError" = some (.ref S)
  oex : OexC K C
  xf : XfC K C
  nP : PySem.W.findIn K (.ref C) "place" = some none
  nM : PySem.W.findIn K (.ref C) "message" = some none
  iC : PySem.W.findIn K (.ref C) "__init__" = some (some (.ref fI))
  tI : PySem.W.typeIn K (.ref fI) = some (.type "function")
  sC : PySem.W.findIn K (.ref C) "__str__" = some (some (.ref fS))
  tS : PySem.W.isFn K (.ref fS) = true
  te : PySem.W.exmOne K (.ref C) (.ref C) = some true
  ks : PySem.W.kitOne K (.ref C) (.ref S) = some true
  cl : (PySem.W.clsIn K C).isSome = true
  aC : PySem.W.findIn K (.ref C) "__class__" = some (some (.builtin "object.__class__"))
  sp : PySem.W.specialIn K (.builtin "object.__class__") "__get__" = some (some (.builtin "getset_descriptor.__get__"))
  tk : PySem.W.takesIn K (.builtin "object.__class__") = some true
  mo : PySem.W.mroIn K C (.type "object") = some true
/-- __init__: place, message -/
def spIni (K : PySem.W.Frag) : Sp := fun vs H Q _ => ∃ (a C : Addr) (y1 y2 : V), vs = [.ref a, y1, y2] ∧ OexC K C ∧ PySem.W.findIn K (.ref C) "place" = some none ∧ PySem.W.findIn K (.ref C) "message" = some none ∧ H a = some (exo a C none) ∧
  ∀ dx, H dx = none → dx ≠ a → Q .non (upd (upd (upd H dx (exd dx [(("place" : Str), y1)])) a (exo a C (some dx))) dx (exd dx [(("message" : Str), y2), (("place" : Str), y1)]))
section
variable {P : Program} {w : World} {K : PySem.W.Frag} {mg : Str → Option Value} {base : Heap} {C S fI fS : Addr} {st : Stmt} {fd : FuncData}
theorem ini_read (vs : List V) (H : Hp) (Q : VK) (E : XK) (h : spIni K vs H Q E) : tSeq (tOst K "place" (tVar 0) (tVar 1)) (tOst K "message" (tVar 0) (tVar 2)) { nx := fun _ H' => Q .non H', rt := Q } (L2.start ["self", "place", "message"] vs) H := by
  obtain ⟨a, C, y1, y2, rfl, T, nP, nM, ha, q⟩ := h
  refine ⟨_, rfl, _, rfl, a, C, rfl, T, nP, .inl ⟨ha, fun dx hd hne => ?_⟩⟩
  refine ⟨_, rfl, _, rfl, a, C, rfl, T, nM, .inr ⟨dx, [(("place" : Str), y1)], upd_same, by rw [upd_ne (Ne.symm (Ne.symm hne))]; exact upd_same, (show 1 ≤ 900 by decide), ?_⟩⟩
  exact q dx hd hne
end
section
variable {X : Cx} {C S fI fS : Addr} {e : Expr} {es : List Expr} {A : TF (List D)} {W : XK} {p pos pos2 : Pos} {k : Nat} {fd : FuncData}
/-- raise TextError(place, message) -/
def xRaise (A : TF (List D)) : TSX := fun E ρ μ => A ρ μ fun ds μ1 => ∃ (q : Int) (m : Str), ds = [.int q, .str m] ∧ E.ex q m μ1
theorem sx_raise (T : ETx X.K X.mg C S fI fS) (F : FnOk X.prog X.w X.K X.mg X.base CX0 k fI fd ["self", "place", "message"] (spIni X.K)) (hb : Binds X.K fd ["self", "place", "message"] []) (hr : Room (k + 1) X.A) (hc : X.calm = true) (tk : Takes X (fun cls d _ H => W cls d H)) (ha : DA X (e :: es) A)
    (hg : Gl X "TextError" := by rfl) (he : starEach (e :: es) X.env = (false, eval e X.env) :: starEach es X.env := by rfl) (hpl : (backTo pos (starEach es X.env)).any (·.1) = false := by rfl) :
    DSX X C W (.Raise (some (.Call (.Name "TextError" p) (e :: es) [] pos)) none pos2) (xRaise A) := by
  refine weakS (ps_raise hc tk (pmk_oex T.oex T.iC T.tI F hr hb .nil pass0 hg T.gC ha (by decide) he hpl)) fun D' σ H ⟨ρ, μ, E, s, g, c, x⟩ => ?_
  refine Lift.go (F := A) s g fun ds μ1 vs H1 ⟨q, m, ed, gx⟩ s1 n1 r1 => ?_
  subst ed
  obtain ⟨v, u, rfl, r2, r3⟩ := rp2 r1
  cases r2
  cases r3 with
  | str _ hm =>
    refine ⟨(show 2 ≤ 1000 by decide), fun a ha => ⟨a, C, .int q, .str m, rfl, T.oex, T.nP, T.nM, upd_same, fun dx hd hne => ?_⟩⟩
    rw [upd_ne hne] at hd
    refine ⟨rfl, dx, xfs q m, ?_, upd_same, hd, ?_⟩
    · rw [upd_ne (Ne.symm hne), upd_same]
    · have eh : upd (del (upd (upd (upd (upd H1 a (exo a C none)) dx (exd dx [(("place" : Str), V.int q)])) a (exo a C (some dx))) dx (exd dx [(("message" : Str), V.str m), (("place" : Str), V.int q)])) a) dx (.xd (xfs q m)) = upd H1 dx (.xd (xfs q m)) := by
        funext b
        by_cases h1 : b = dx
        · rw [h1, upd_same, upd_same]
        · rw [upd_ne h1, upd_ne h1]
          by_cases h2 : b = a
          · rw [h2, del_same, ha]
          · rw [del_ne h2, upd_ne h1, upd_ne h2, upd_ne h1, upd_ne h2]
      rw [eh]
      have n2 : Nx X.K H1 μ1 (upd H1 dx (.xd (xfs q m))) μ1 := Nx.new s1.wd hd
      exact x q m μ1 _ dx gx (n1.trans n2) (new_at (s1.wd.free hd)) hm
end

/-! ### in the except suite -/
section
variable {X : Cx} {C S fI fS a dd : Addr} {oe : Obj} {cls : Value} {d : Option Addr} {pn : List (Addr × Obj)} {e : Expr} {es : List Expr} {F : TF D} {A : TF (List D)} {p pos : Pos}
theorem xfs_place (q : Int) (m : Str) : (xfs q m).lookup ("place" : Str) = some (V.int q) := by
  have h : (("place" : Str) == ("message" : Str)) = false := by decide +kernel
  unfold xfs
  rw [List.lookup_cons, h]
  simp [List.lookup]
/-- error.message, error.place -/
def dXm (a : Addr) (cls : Value) (d : Option Addr) (C : Addr) (F : TF D) : TF D := fun ρ μ Q => F ρ μ fun x μ1 => ∃ dd q m, x = .exn a dd q m ∧ cls = .ref C ∧ d = some dd ∧ Q (.str m) μ1
def dXp (a : Addr) (cls : Value) (d : Option Addr) (C : Addr) (F : TF D) : TF D := fun ρ μ Q => F ρ μ fun x μ1 => ∃ dd q m, x = .exn a dd q m ∧ cls = .ref C ∧ d = some dd ∧ Q (.int q) μ1
theorem de_xm (T : XfC X.K C) (hno : PySem.W.findIn X.K (.ref C) "message" = some none) (hz : Zc cls d oe) (hf : ∃ vs, oe.data = .fields vs) (he : DE (X.suite a ((a, oe) :: pn)) e F) (hb : attributeBase e "message" X.env (eval e X.env) = eval e X.env := by rfl) :
    DE (X.suite a ((a, oe) :: pn)) (.Attribute e "message" pos) (dXm a cls d C F) := by
  refine weakE (pe_xf T hno hz hf he hb) fun σ H Q ⟨ρ, μ, Qd, s, h, kk⟩ => Lift.go (F := F) s h fun x μ1 v H1 ⟨dd, q, m, ex, ec, ed, g⟩ s1 n1 r1 => ?_
  subst ex
  cases r1 with
  | exn hd hm => exact ⟨rfl, ec, dd, _, .str m, ed, hide_in hd, by simp [List.lookup, xfs], kk _ μ1 _ H1 g n1 (.str m hm)⟩
theorem de_xp (T : XfC X.K C) (hno : PySem.W.findIn X.K (.ref C) "place" = some none) (hz : Zc cls d oe) (hf : ∃ vs, oe.data = .fields vs) (he : DE (X.suite a ((a, oe) :: pn)) e F) (hb : attributeBase e "place" X.env (eval e X.env) = eval e X.env := by rfl) :
    DE (X.suite a ((a, oe) :: pn)) (.Attribute e "place" pos) (dXp a cls d C F) := by
  refine weakE (pe_xf T hno hz hf he hb) fun σ H Q ⟨ρ, μ, Qd, s, h, kk⟩ => Lift.go (F := F) s h fun x μ1 v H1 ⟨dd, q, m, ex, ec, ed, g⟩ s1 n1 r1 => ?_
  subst ex
  cases r1 with
  | exn hd hm => exact ⟨rfl, ec, dd, _, .int q, ed, hide_in hd, xfs_place q m, kk _ μ1 _ H1 g n1 (.int q)⟩
/-- a class of the program as a value -/
theorem de_globC {x : Str} {D' : Addr} (hg : Gl X x) (hm : X.mg x = some (.ref D')) (hd : (x == ("__debug__" : Str)) = false := by decide) : DE X (.Name x pos) (dC (.ptr D')) :=
  dC_of (v := .ref D') (pe_glob hg hm rfl hd) fun _ => .ptr D'
/-- isinstance(error, S) -/
def rIsX (K : PySem.W.Frag) (C a : Addr) (cls : Value) : List V → Hp → VK → Prop := fun xs H Q => ∃ (c : V) (cv : Value) (b : Bool) (dd : Addr) (fs : List (Str × V)), xs = [.ref a, c] ∧ cls = .ref C ∧ d = some dd ∧ H dd = some (.xd fs) ∧ (∀ u, RelV c u → u = cv) ∧ PySem.W.kitOne K (.ref C) cv = some b ∧ Q (.bl b) H
theorem call_isX {mg : Str → Option Value} (T : ETx X.K mg C S fI fS) (hz : Zc cls d oe) (hf : ∃ vs, oe.data = .fields vs) : CallR (X.suite a ((a, oe) :: pn)) (.builtin "isinstance") (rIsX (d := d) X.K C a cls) := by
  intro pins s σ H xs us Q I r h
  obtain ⟨c, cv, b, dd, fs, rfl, ec, ed, ha, hcv, e, q⟩ := h
  cases r with
  | cons rx rr =>
    cases rr with
    | cons rt rr =>
      cases rr
      cases rx
      have ecv := hcv _ rt
      subst ecv
      subst ec
      subst ed
      have hget := (I.pin (a, oe) (List.mem_append_left _ List.mem_cons_self)).1
      obtain ⟨vs, hv⟩ := hf
      have hx : ObjOk X.prog X.w H s.heap dd (.xd fs) := I.hok dd _ ha
      obtain ⟨mA, hns, _⟩ := hx
      obtain ⟨od, ho, _⟩ := lookIn_ns hns
      have J : PySem.W.InstAt s.heap a oe C (some od) := ⟨hget, hz.1, by unfold PySem.W.notCls; rw [hv] <;> rfl, by rw [hz.2]; exact ho⟩
      exact PySem.W.kia_one (PySem.W.kitx_exc T.cl T.xf.ga T.xf.gg T.xf.exC T.aC T.sp T.tk T.mo) I.kIn J e (fun z => nomatch z) fun tk => ⟨.bl b, H, I.kept (t' := tk) fun _ _ z => z, rfl, q⟩
def fIsX (a : Addr) (cls : Value) (d : Option Addr) (C S : Addr) : FB := fun μ ds P => match ds with
  | [.exn a' dd q m, .ptr S'] => a' = a ∧ S' = S ∧ cls = .ref C ∧ d = some dd ∧ P (.bl true)
  | _ => False
theorem cd_isX {K : PySem.W.Frag} {mg : Str → Option Value} (T : ETx K mg C S fI fS) : CallD K (rIsX (d := d) K C a cls) (fIsX a cls d C S) := by
  intro ds vs H μ P Q w r q k
  unfold fIsX at q
  split at q
  · obtain ⟨rfl, rfl, e1, e2, q⟩ := q
    obtain ⟨v, u, rfl, r1, r2⟩ := rp2 r
    cases r2
    cases r1 with
    | exn hd hm => exact ⟨_, .ref _, true, _, _, rfl, e1, e2, hide_in hd, fun u hu => hu, T.ks, k _ _ H q (Nx.refl w) (.bl true)⟩
  · exact q.elim
end
end DL
end

-- part DLF
section
/-! str(error) where the error is handled -/
namespace DL
open PySem L2 PySem.Spec PyProof.Rows
/-- a def is run beside a thing that is held fast -/
theorem run_pin {P : Program} {w : World} {K : PySem.W.Frag} {mg : Str → Option Value} {base : Heap} {k : Nat} {f : Addr} {name qual : Str} {params : Arguments} {body : List Stmt} {scope : Scope} {dV kV doc pm cdv ct oc : Value} {an od : Option Addr} {osl : Array (Option Value)} {N ps : List Str}
    {A : Around} {outer : List PySem.Env} {s : Shared} {H : Hp} {args : Args} {us : List Value} {vs : List V} {Q : VK} {E : XK} {p : Addr × Obj} {t : TS}
    (lk : K.lookup f = some ⟨oc, od, .func (PySem.W.fnOf name qual params body scope dV kV doc pm an cdv ct), osl⟩) (hcd : PySem.W.codeIn K cdv qual = true) (S : FnScope N ps scope) (hr : L2H.RoomH (k + 1) A) (hpin : L2H.PinOk outer H s p) (e0 : Env0 P w K mg base A outer s H)
    (hb : BindsTo s (PySem.W.fnOf name qual params body scope dV kV doc pm an cdv ct) args (ps.zip us)) (r : Vals vs us) (hl : vs.length = ps.length)
    (ht : PSs (L2H.cxH CX0 P w K mg base N qual scope f cdv A outer s H E p) body t) (hq : t { nx := fun _ H' => Q .non H', rt := Q } (L2.start N vs) H) : codeAny (model P w) A (.call (.ref f) args) (CR CX0 outer P w H s Q E) s := by
  have X1 : K.In s.heap := e0.mod.kin.keeps fun b o z => (e0.bs b o z).1
  have X2 : s.heap.NoLimit := e0.mod.nolimit.keeps fun b o z => (e0.bs b o z).1
  have X3 : ∀ y ∈ ps.zip us, scope.names.lookup y.1 = some .local ∨ (scope.names.lookup y.1 = some .cell ∧ ((cellsFrom (s.heap.objs.size + 1) scope.names []).lookup y.1).isSome = true) := by
    rintro ⟨n, v⟩ hy
    rcases S.par n (List.of_mem_zip hy).1 with q | q
    · exact Or.inl q
    · exact Or.inr ⟨q, PySem.W.cellsFrom_some _ _ _ (Or.inl q)⟩
  refine codeAny_call_function hr.depth (X1 _ _ lk) rfl S.co S.gen rfl (PySem.W.codeRec_of X1 hcd) (hb _ _ _ _ (wpAny_newFunctionEnv_cells S.kind X3 fun env he s1 x => ?_))
  subst he
  refine ⟨X2.keeps x.toInCall.keep, codeAny_func ?_⟩
  refine wpAny_mono (ht.run [] s1 (L2.start N vs) H _ (L2H.inv_startH S hpin e0 hl r x) hq) (fun fl s' hs => ?_) fun e s' hs => hs
  cases fl with
  | ret u =>
    obtain ⟨v, σ', H', J, rv, q⟩ := hs
    exact (⟨v, H', J.os, J.bare, J.base, J.hok, rv, q⟩ : CE outer P w H s Q u s')
  | next =>
    obtain ⟨σ', H', J, q⟩ := hs
    exact (⟨V.non, H', J.os, J.bare, J.base, J.hok, rfl, q⟩ : CE outer P w H s Q Value.none s')
  | brk => exact hs.elim fun _ z => z.elim fun _ z => z.2.elim
  | cont => exact hs.elim fun _ z => z.elim fun _ z => z.2.elim
/-- self.f, self held fast -/
theorem pe_pinned {X : Cx} {a C dd : Addr} {oe : Obj} {e : Expr} {te : TE} {pos : Pos} {n : Str} (T : XfC X.K C) (hno : PySem.W.findIn X.K (.ref C) n = some none) (hz : Zc (.ref C) (some dd) oe) (hf : ∃ vs, oe.data = .fields vs) (hm : (a, oe) ∈ X.pn) (he : PE X e te) (hb : attributeBase e n X.env (eval e X.env) = eval e X.env := by rfl) :
    PE X (.Attribute e n pos) (fun σ H Q => te σ H fun x H1 => ∃ (fs : List (Str × V)) (v : V), x = .ref a ∧ H1 dd = some (.xd fs) ∧ fs.lookup n = some v ∧ Q v H1) := by
  constructor
  intro pins s σ H Q I h
  refine attr_of hb (thn (he.run pins s σ H _ I h) ?_)
  rintro u s1 ⟨x, H1, I1, rx, fs, v, rfl, at_dd, found, q⟩
  cases (show u = .ref a from rx)
  -- the thing itself, and its dict, as they stand in the heap
  have there : s1.heap.get? a = some oe := (I1.pin (a, oe) (List.mem_append_left _ hm)).1
  have plain : PySem.W.notCls oe = true := by
    obtain ⟨vs, hd⟩ := hf
    unfold PySem.W.notCls
    rw [hd] <;> rfl
  have ⟨mA, names, same⟩ := (show ObjOk X.prog X.w H1 s1.heap dd (.xd fs) from I1.hok dd _ at_dd)
  have ⟨od, inDict, look⟩ := lookIn_ns names
  have ⟨u2, got, ru⟩ := RelO.some_of (v := v) (o := mA n) (found ▸ same n)
  have inst : PySem.W.InstAt s1.heap a oe C (some od) := ⟨there, hz.1, plain, hz.2 ▸ inDict⟩
  exact HandSPX.exc_get I1.kIn inst T.ga T.gg T.exC (PySem.W.findObj_own T.hdC hno rfl (by rw [look, got])) (handed_of ru) ⟨v, H1, I1.tok _, ru, q⟩
/-- str(error) -/
def rStrX (C a : Addr) (cls : Value) (d : Option Addr) : List V → Hp → VK → Prop := fun xs H Q => ∃ (dd : Addr) (q : Int) (m : Str), xs = [.ref a] ∧ cls = .ref C ∧ d = some dd ∧ H dd = some (.xd (xfs q m)) ∧ m.length ≤ 1000 ∧ q.natAbs.log2 < 1920 ∧
  (toString q : Str).length ≤ 1000 ∧ Q (.str (((Str.empty ++ m) ++ (" at " : Str)) ++ toString q)) H
/-- the text of __str__ -/
def strB (p1 p2 p3 p4 p5 p6 p7 p8 p9 p0 : Pos) (j : Nat) : List Stmt :=
  [.Return (some (.JoinedStr [.FormattedValue (.Attribute (.Name "self" p1) "message" p2) (-1) none p3, .Constant (.str " at ") j p4, .FormattedValue (.Attribute (.Name "self" p5) "place" p6) (-1) none p7] p8)) p9]
section
variable {X : Cx} {C S fI fS a : Addr} {oe : Obj} {cls : Value} {d : Option Addr} {pn : List (Addr × Obj)} {mg : Str → Option Value} {k : Nat} {name qual : Str} {params : Arguments} {body : List Stmt} {scope : Scope} {dV kV doc pm cdv ct oc : Value} {an od : Option Addr} {osl : Array (Option Value)}
theorem call_strX (T : ETx X.K mg C S fI fS) (lk : X.K.lookup fS = some ⟨oc, od, .func (PySem.W.fnOf name qual params body scope dV kV doc pm an cdv ct), osl⟩) (hcd : PySem.W.codeIn X.K cdv qual = true) (SC : FnScope ["self"] ["self"] scope) (hvis : scope.names.lookup ("self" : Str) = some NameKind.local)
    (hbd : ∃ p1 p2 p3 p4 p5 p6 p7 p8 p9 p0 j, body = strB p1 p2 p3 p4 p5 p6 p7 p8 p9 p0 j) (hb : Binds X.K (PySem.W.fnOf name qual params body scope dV kV doc pm an cdv ct) ["self"] []) (hr : Room 2 X.A) (hz : Zc cls d oe) (hf : ∃ vs, oe.data = .fields vs) :
    CallR (X.suite a ((a, oe) :: pn)) (.type "str") (rStrX C a cls d) := by
  intro pins s σ H xs us Q I r h
  obtain ⟨dd, q, m, rfl, ec, ed, ha, hm, hq, hqs, fin⟩ := h
  subst ec
  subst ed
  cases r with
  | cons rx rr =>
    cases rr
    cases rx
    have P1 := I.pin (a, oe) (List.mem_append_left _ List.mem_cons_self)
    have hf' := hf
    obtain ⟨vs, hv⟩ := hf
    have hx : ObjOk X.prog X.w H s.heap dd (.xd (xfs q m)) := I.hok dd _ ha
    obtain ⟨mA, hns, _⟩ := hx
    obtain ⟨od, ho, _⟩ := lookIn_ns hns
    have J : PySem.W.InstAt s.heap a oe C (some od) := ⟨P1.1, hz.1, by unfold PySem.W.notCls; rw [hv] <;> rfl, by rw [hz.2]; exact ho⟩
    have hun : X.A.units + 232 < cLine := hr.un
    have hdp : X.A.depth + 11 < recursionLimit := hr.dp
    refine PySem.W.kso_call (by show X.A.units + 1 + 1 < cLine; omega) I.kIn J T.sC T.tS ?_
    have hpin : L2H.PinOk X.stack H s (a, oe) := ⟨P1.1, P1.2.1, fun hmem => (List.mem_cons.mp (I.stkSub a hmem)).elim P1.2.2.1 P1.2.2.2.1, P1.2.2.2.2⟩
    have b := hb s [.ref a] I.kIn (by rfl)
    have e0 := I.env0
    have e1 : Env0 X.prog X.w X.K X.mg X.base ((X.suite a ((a, oe) :: pn)).A.in1.in1) X.stack s H := ⟨e0.frames, e0.mod, e0.bs, e0.bsz, e0.funs, e0.frf, e0.hok, e0.bare⟩
    have rm : L2H.RoomH (0 + 1) ((X.suite a ((a, oe) :: pn)).A.in1.in1) := ⟨by show X.A.depth + 3 * 1 + 5 < recursionLimit; omega, by show X.A.units + 1 + 1 + 16 * 1 + 200 < cLine; omega⟩
    obtain ⟨p1, p2, p3, p4, p5, p6, p7, p8, p9, p0, j, rfl⟩ := hbd
    refine wpAny_call (codeAny_mono (run_pin (Q := fun v H' => v = .str (((Str.empty ++ m) ++ (" at " : Str)) ++ toString q) ∧ H' = H) (E := fun _ _ _ => False) (vs := [.ref a]) lk hcd SC rm hpin e1 b (.cons rfl .nil) rfl
      (pss_one (ps_ret (pe_joined (.cons (pe_fmt (pe_pinned T.xf T.nM hz hf' List.mem_cons_self (pe_var (i := 0) rfl (Or.inl hvis) (by decide) (by decide)))) (.cons pe_str (.cons (pe_fmt (pe_pinned T.xf T.nP hz hf' List.mem_cons_self (pe_var (i := 0) rfl (Or.inl hvis) (by decide) (by decide)))) .nil)))))) ?_) fun r s' hq2 => ?_)
    · refine ⟨_, rfl, _, .str m, rfl, ha, by simp [List.lookup, xfs], .inl ⟨m, rfl, Nat.le_trans hm (by decide), ?_⟩⟩
      have e1 : (Str.empty ++ m).length = m.length := by rw [str_len_add]; show 0 + m.length = _; omega
      have e2 : ((Str.empty ++ m) ++ (" at " : Str)).length = m.length + 4 := by rw [str_len_add, e1]; rfl
      have hsl : 10000 ≤ sizeLine := by decide
      refine ⟨m, rfl, by omega, ?_⟩
      refine ⟨_, rfl, by omega, ?_⟩
      refine ⟨_, rfl, _, .int q, rfl, ha, xfs_place q m, .inr ⟨q, rfl, hq, ?_⟩⟩
      exact ⟨_, rfl, by rw [str_len_add, e2]; omega, rfl, rfl⟩
    · cases r with
      | error er => exact hq2.elim
      | ok fl =>
        cases fl with
        | ret u =>
          have hq3 : CE X.stack X.prog X.w H s (fun v H' => v = .str (((Str.empty ++ m) ++ (" at " : Str)) ++ toString q) ∧ H' = H) u s' := hq2
          obtain ⟨v, H', I', rv, ev, eH⟩ := I.after hq3
          subst ev
          subst eH
          obtain ⟨tk, rfl⟩ := rv
          exact ⟨.str (((Str.empty ++ m) ++ (" at " : Str)) ++ toString q), H', I', ⟨tk, rfl⟩, fin⟩
        | next => exact hq2.elim
        | brk => exact hq2.elim
        | cont => exact hq2.elim
end
end DL
end

-- part DLG
section
/-! str(error) and try at the data layer -/
namespace DL
open PySem L2
def fStrX (C a : Addr) (cls : Value) (d : Option Addr) : FB := fun _ ds P => match ds with
  | [.exn a' dd q m] => a' = a ∧ cls = .ref C ∧ d = some dd ∧ m.length ≤ 1000 ∧ q.natAbs.log2 < 1920 ∧ (toString q : Str).length ≤ 1000 ∧ SOk (((Str.empty ++ m) ++ (" at " : Str)) ++ toString q) ∧ P (.str (((Str.empty ++ m) ++ (" at " : Str)) ++ toString q))
  | _ => False
theorem cd_strX {K : PySem.W.Frag} {C a : Addr} {cls : Value} {d : Option Addr} : CallD K (rStrX C a cls d) (fStrX C a cls d) := by
  intro ds vs H μ P Q w r q k
  unfold fStrX at q
  split at q
  · obtain ⟨rfl, e1, e2, h1, h2, h3, so, q⟩ := q
    obtain ⟨v, rfl, r1⟩ := rp1 r
    cases r1 with
    | exn hd hm => exact ⟨_, _, _, rfl, e1, e2, hide_in hd, h1, h2, h3, k _ _ H q (Nx.refl w) (.str _ so)⟩
  · exact q.elim
theorem takesN {X : Cx} : Takes X (fun _ _ _ _ => False) := fun _ _ x => by
  obtain ⟨_, _, _, _, _, _, _, _, _, _, _, _, _, _, _, _, z⟩ := x
  cases z
section
variable {X : Cx} {TE S fI fS f : Addr} {x n : Str} {e : Expr} {es : List Expr} {A : TF (List D)} {i j k : Nat} {C : CTX} {G2 : TSD} {GS : Addr → Value → Option Addr → TSD} {fd : FuncData} {ps : List Str} {y : Str} {rest suite : List Stmt} {b₀ : Stmt} {p1 p2 p3 p4 np pos pos' : Pos}
/-- try: y = f(..); .. / except TextError as n: .. -/
def sTry (TE : Addr) (C : CTX) (A : TF (List D)) (i : Nat) (G2 : TSD) (j : Nat) (GS : Addr → Value → Option Addr → TSD) : TSD := fun E ρ μ => A ρ μ fun ds μ1 => C ds μ1 (fun d μ2 => G2 E (ρ.set i (some d)) μ2)
  (fun q m μ2 => ∀ a dd, GS a (.ref TE) (some dd) { nx := fun ρ' => E.nx (ρ'.set j none), rt := E.rt, bk := fun ρ' => E.bk (ρ'.set j none), ct := fun ρ' => E.ct (ρ'.set j none) } (ρ.set j (some (.exn a dd q m))) μ2)
theorem renv_none {K : PySem.W.Frag} {G : Hp} {σ : L2.St} {ρ : Env} (r : Renv K G σ ρ) (j : Nat) : Renv K G (σ.set j none) (ρ.set j none) := by
  refine ⟨by rw [List.length_set, List.length_set]; exact r.1, fun i d h => ?_⟩
  by_cases hj : j = i
  · subst hj
    rw [List.getElem?_set] at h
    split at h
    · split at h <;> cases h
    · exact absurd rfl (by assumption)
  · rw [List.getElem?_set_ne hj] at h ⊢
    exact r.2 i d h
theorem StOk.none {K : PySem.W.Frag} {H : Hp} {μ : Mu} {σ : L2.St} {ρ : Env} (s : StOk K H μ σ ρ) (j : Nat) : StOk K H μ (σ.set j none) (ρ.set j none) := ⟨renv_none s.env j, s.wd⟩
theorem ds_try (T : ETx X.K X.mg TE S fI fS) (F : FnOk X.prog X.w X.K X.mg X.base (L2.CX X.prog X.w) k f fd ps (spX TE X.K C)) (hr : Room k X.A) (hgf : Gl X x) (hm : X.mg x = some (.ref f)) (hk : PySem.W.keepIn X.K (.ref f) = true) (hb : Binds X.K fd ps []) (hN : X.N.Nodup)
    (ha : ∀ pn xe, DA (X.tr pn xe) (e :: es) A) (h2 : ∀ pn xe, DSs (X.tr pn xe) rest G2)
    (hsu : ∀ (a : Addr) (oe : Obj) (cls : Value) (d : Option Addr) (pn : List (Addr × Obj)), Zc cls d oe → (∃ vs, oe.data = .fields vs) → DSs (X.suite a ((a, oe) :: pn)) (b₀ :: suite) (GS a cls d))
    (hs : X.stack = X.env :: X.outer := by rfl) (hf : X.env.frame = some X.env.locals := by rfl) (hi : X.N[j]? = some n := by rfl) (hln : X.env.kindOf n = some .local := by rfl) (hg : Gl X "TextError" := by rfl)
    (hyi : X.N[i]? = some y := by rfl) (hyl : Loc X.env.scope y := by first | exact Or.inl rfl | exact Or.inr rfl)
    (hsw : swapsWith (.Call (.Name x p2) (e :: es) [] p3) (some (.Name y p1)) p4.line X.env = pure false := by rfl) (hfn : X.fn y = true ∨ X.env.scope.names.lookup y = some .local := by first | exact .inl rfl | exact .inr rfl | assumption)
    (hdb : (x == ("__debug__" : Str)) = false := by decide) (he : starEach (e :: es) X.env = (false, eval e X.env) :: starEach es X.env := by rfl) (hpl : (backTo p3 (starEach es X.env)).any (·.1) = false := by rfl) :
    DS X (.Try (.Assign [.Name y p1] (.Call (.Name x p2) (e :: es) [] p3) p4 :: rest) [.ExceptHandler (some (.Name "TextError" np)) (some n) (b₀ :: suite) pos'] [] [] pos) (sTry TE C A i G2 j GS) := by
  refine weakS (ps_try_as (i := j) (c := .ref TE) (tb := fun W => tSeq (tAsg (tCallS (spX TE X.K C) (WE W) (tDA X.K A)) (gName i)) (tDS X.K G2)) (ts := fun a cls d => tDS X.K (GS a cls d)) hs hf hN hi hln ⟨hg, by decide, .inl T.gC⟩ takesN
    (fun W pn xe tk _ => pss_cons (ps_set (i := i) hN hyi hyl (pe_callS F hr hgf hm hk hb (fun σ => passAt tk σ) (ha pn xe) hdb he hpl) hsw hfn) (h2 pn xe)) hsu) fun D' σ H ⟨ρ, μ, E, s, g, c⟩ => ?_
  refine Lift.go (F := A) s g fun ds μ1 vs H1 g1 s1 n1 r1 => ?_
  refine ⟨ds, μ1, _, _, r1, s1.wd, g1, fun d μ2 v H2 q n2 r2 => ?_, fun q m μ2 H2 a gx n2 hx hm => ?_⟩
  · exact ⟨_, μ2, E, (s1.next n2).set r2 i, q, c.after (n1.trans n2)⟩
  · refine ⟨true, T.te, fun _ a0 _ => ?_, fun z => nomatch z⟩
    have s2 := (s1.next n2).set (v := .ref a0) (d := .exn a0 a q m) (.exn hx hm) j
    refine ⟨_, μ2, _, s2, gx a0 a, ?_⟩
    have cc := c.after (n1.trans n2)
    exact ⟨fun ρ' μ' σ' H' z s' n => cc.nx _ μ' _ H' z (s'.none j) n, cc.rt, fun ρ' μ' σ' H' z s' n => cc.bk _ μ' _ H' z (s'.none j) n, fun ρ' μ' σ' H' z s' n => cc.ct _ μ' _ H' z (s'.none j) n⟩
end
end DL
end

-- part DLW
section
/-! a written dict of texts: {..}[k], {..}.get(k) -/
namespace DL
open PySem L2
inductive WD : List (Option Expr) → List Expr → List (Str × Str) → Prop where
  | nil : WD [] [] []
  | cons {k v : Str} {j j' : Nat} {p p' : Pos} {ks : List (Option Expr)} {vs : List Expr} {kvs : List (Str × Str)} (r : WD ks vs kvs) : WD (some (.Constant (.str k) j p) :: ks) (.Constant (.str v) j' p' :: vs) ((k, v) :: kvs)
theorem WD.pps {X : Cx} {pos : Pos} {ks : List (Option Expr)} {vs : List Expr} {kvs : List (Str × Str)} (h : WD ks vs kvs) : PPs X pos ks vs (kvs.map fun kv => (tC (.str kv.1), tC (.str kv.2))) := by
  induction h with
  | nil => exact pps_nil
  | cons r ih => exact pps_cons pe_str pe_str ih
theorem wd_pairs {σ : L2.St} {H : Hp} {Q : List (V × V) → Hp → Prop} : ∀ {kvs : List (Str × Str)}, Q (kvs.map fun kv => (V.str kv.1, V.str kv.2)) H → tPairs (kvs.map fun kv => (tC (.str kv.1), tC (.str kv.2))) σ H Q
  | [], h => h
  | _ :: kvs, h => wd_pairs (kvs := kvs) h
theorem merge_nodup : ∀ (more acc : List (Key × V)), ((acc ++ more).map (·.1)).Nodup → mergeK acc more = acc ++ more
  | [], acc, _ => by simp [mergeK]
  | kv :: more, acc, h => by
    have h1 : putK acc kv.1 kv.2 = acc ++ [kv] := by
      unfold putK
      rw [if_neg]
      intro hc
      rw [List.any_eq_true] at hc
      obtain ⟨x, hx, e⟩ := hc
      have e := of_decide_eq_true e
      rw [List.map_append, List.nodup_append] at h
      exact h.2.2 _ (List.mem_map.mpr ⟨x, hx, rfl⟩) _ (List.mem_map.mpr ⟨kv, List.mem_cons_self, rfl⟩) e
    have h2 : ((acc ++ [kv] ++ more).map (·.1)).Nodup := by simpa using h
    have := merge_nodup more (acc ++ [kv]) h2
    unfold mergeK at this ⊢
    rw [List.foldl_cons, h1, this]
    simp
abbrev wdK (kvs : List (Str × Str)) : List (Key × V) := kvs.map fun kv => (Sum.inr kv.1, V.str kv.2)
theorem wd_val (k : Str) : ∀ kvs : List (Str × Str), valV (wdK kvs) (Sum.inr k) = (kvs.lookup k).map V.str
  | [] => rfl
  | (a, b) :: kvs => by
    have ih := wd_val k kvs
    unfold valV wdK at ih ⊢
    rw [List.map_cons, List.find?_cons, List.lookup_cons]
    by_cases h : a = k
    · subst h; simp
    · have h2 : (k == a) = false := by simpa using fun e => h e.symm
      have h3 : decide ((Sum.inr a : Key) = Sum.inr k) = false := by simpa using h
      rw [h2]
      simp only [h3]
      exact ih
theorem wd_nodup {kvs : List (Str × Str)} (h : (kvs.map (·.1)).Nodup) : ((wdK kvs).map (·.1)).Nodup := by
  unfold wdK
  rw [List.map_map]
  have e : (((fun kv : Key × V => kv.1) ∘ fun kv : Str × Str => ((Sum.inr kv.1 : Key), V.str kv.2))) = (Sum.inr : Str → Key) ∘ fun kv : Str × Str => kv.1 := rfl
  rw [e, ← List.map_map]
  unfold List.Nodup at h ⊢
  rw [List.pairwise_map]
  exact h.imp fun hab e => hab (Sum.inr.inj e)
theorem wd_mem {k v : Str} : ∀ {kvs : List (Str × Str)}, kvs.lookup k = some v → (k, v) ∈ kvs
  | [], h => by cases h
  | (a, b) :: r, h => by
    rw [List.lookup_cons] at h
    split at h
    · rename_i e
      have e := eq_of_beq e
      cases h; subst e; exact List.mem_cons_self
    · exact List.mem_cons_of_mem _ (wd_mem h)
theorem upd_twice {H : Hp} {p : Addr} {a b : HO} : upd (upd H p a) p b = upd H p b := by
  funext x
  by_cases h : x = p
  · rw [h, upd_same, upd_same]
  · rw [upd_ne h, upd_ne h, upd_ne h]
section
variable {X : Cx} {keys : List (Option Expr)} {vals : List Expr} {kvs : List (Str × Str)} {e : Expr} {F : TF D} {pos pos' apos cpos : Pos}
theorem disp_go {σ : L2.St} {ρ : Env} {H : Hp} {μ : Mu} {Q : VK} (s : StOk X.K H μ σ ρ) (hn : (kvs.map (·.1)).Nodup) (hl : kvs.length ≤ 15) (k : ∀ p, H p = none → StOk X.K (upd H p (.dK (wdK kvs))) μ σ ρ → Nx X.K H μ (upd H p (.dK (wdK kvs))) μ → Q (.ref p) (upd H p (.dK (wdK kvs)))) :
    tDisp (kvs.map fun kv => (tC (.str kv.1), tC (.str kv.2))) σ H Q := by
  intro p hp
  refine wd_pairs ⟨upd_same, wdK kvs, ?_, by rw [List.length_map]; exact hl, ?_⟩
  · unfold wdK; rw [List.map_map]; rfl
  · rw [merge_nodup _ [] (by simpa using wd_nodup hn), List.nil_append, upd_twice]
    have n := Nx.new (o := .dK (wdK kvs)) s.wd hp
    exact k p hp (s.next n) n
def dWix (kvs : List (Str × Str)) (F : TF D) : TF D := fun ρ μ Q => F ρ μ fun x μ1 => ∃ s v, x = .str s ∧ kvs.lookup s = some v ∧ Q (.str v) μ1
def optS : Option Str → D
  | some v => .str v
  | none => .non
def dWget (kvs : List (Str × Str)) (F : TF D) : TF D := fun ρ μ Q => F ρ μ fun x μ1 => ∃ s, x = .str s ∧ Q (optS (kvs.lookup s)) μ1
theorem de_wix {k : Nat} (hr : Room k X.A) (wd : WD keys vals kvs) (hn : (kvs.map (·.1)).Nodup) (hv : ∀ kv ∈ kvs, SOk kv.2) (he : DE X e F) (hs : NoSl e) (h0 : keys ≠ []) (h15 : keys.length ≤ 15) (hk15 : kvs.length ≤ 15) (hall : keys.all (·.isSome) = true := by rfl) (hl : keys.length = vals.length := by rfl) :
    DE X (.Subscript (.Dict keys vals pos) e pos') (dWix kvs F) :=
  weakE (pe_dget (hu_of hr) (pe_disp wd.pps hall hl h0 h15) he hs) fun σ H Q ⟨ρ, μ, Qd, s, h, kk⟩ => disp_go s hn hk15 fun p hp s1 n1 => Lift.go (F := F) s1 h fun x μ2 v H2 ⟨t, w, ex, hw, g⟩ s2 n2 r2 => by
    subst ex
    cases r2
    have hd : H2 p = some (.dK (wdK kvs)) := hide_in (n2.ext _ _ (new_at (s.wd.free hp)))
    refine ⟨p, .str w, rfl, ?_, kk _ μ2 _ H2 g (n1.trans n2) (.str w (hv _ (wd_mem hw)))⟩
    have z := DGet.k (k := Sum.inr t) hd
    rw [wd_val, hw] at z
    exact z
theorem de_wget {k : Nat} (hr : Room k X.A) (wd : WD keys vals kvs) (hn : (kvs.map (·.1)).Nodup) (hv : ∀ kv ∈ kvs, SOk kv.2) (he : DE X e F) (h0 : keys ≠ []) (h15 : keys.length ≤ 15) (hk15 : kvs.length ≤ 15) (m : M1 X (.Dict keys vals pos) "get" apos e cpos := by exact ⟨rfl, rfl, rfl, rfl⟩) (hall : keys.all (·.isSome) = true := by rfl) (hl : keys.length = vals.length := by rfl) :
    DE X (.Call (.Attribute (.Dict keys vals pos) "get" apos) [e] [] cpos) (dWget kvs F) :=
  weakE (pe_dget1 (hu_of hr) (pe_disp wd.pps hall hl h0 h15) he m) fun σ H Q ⟨ρ, μ, Qd, s, h, kk⟩ => disp_go s hn hk15 fun p hp s1 n1 => ⟨p, rfl, .inl ⟨_, .inl upd_same⟩, Lift.go (F := F) s1 h fun x μ2 v H2 ⟨t, ex, g⟩ s2 n2 r2 => by
    subst ex
    cases r2
    have hd : H2 p = some (.dK (wdK kvs)) := hide_in (n2.ext _ _ (new_at (s.wd.free hp)))
    have z := DGet.k (k := Sum.inr t) hd
    rw [wd_val] at z
    refine ⟨_, z, ?_⟩
    cases hw : kvs.lookup t with
    | none => rw [hw] at g; exact kk _ μ2 _ H2 g (n1.trans n2) .non
    | some w => rw [hw] at g; exact kk _ μ2 _ H2 g (n1.trans n2) (.str w (hv _ (wd_mem hw)))⟩
end
end DL
end

-- part E0
section
namespace K42
open PySem L2 DL
def topS (i : Nat) : Stmt := PySem.Challenge.pw_suresnap_k42_errors_of_news.main.body.getD i (.Pass ⟨0, 0, 0, 0⟩)
abbrev s_Reader___init__ : Stmt := inClass (topS 18) 0
theorem sc_Reader___init__ : FnScope ["self", "tokens"] ["self", "tokens"] (defScope s_Reader___init__) := ⟨rfl, rfl, rfl, by decide +kernel, rfl, by decide +kernel, by decide +kernel⟩
abbrev s_Reader_sees : Stmt := inClass (topS 18) 1
theorem sc_Reader_sees : FnScope ["self", "kind"] ["self", "kind"] (defScope s_Reader_sees) := ⟨rfl, rfl, rfl, by decide +kernel, rfl, by decide +kernel, by decide +kernel⟩
abbrev s_Reader_take : Stmt := inClass (topS 18) 4
theorem sc_Reader_take : FnScope ["self", "fits", "kind", "word", "place"] ["self", "fits"] (defScope s_Reader_take) := ⟨rfl, rfl, rfl, by decide +kernel, rfl, by decide +kernel, by decide +kernel⟩
abbrev s_number_of : Stmt := topS 17
theorem sc_number_of : FnScope ["word", "digits", "size"] ["word"] (defScope s_number_of) := ⟨rfl, rfl, rfl, by decide +kernel, rfl, by decide +kernel, by decide +kernel⟩
abbrev s_Reader_take_number : Stmt := inClass (topS 18) 8
theorem sc_Reader_take_number : FnScope ["self", "least", "greatest", "place", "number"] ["self", "least", "greatest"] (defScope s_Reader_take_number) := ⟨rfl, rfl, rfl, by decide +kernel, rfl, by decide +kernel, by decide +kernel⟩
abbrev s_Reader_sees_word : Stmt := inClass (topS 18) 3
theorem sc_Reader_sees_word : FnScope ["self", "choices"] ["self", "choices"] (defScope s_Reader_sees_word) := ⟨rfl, rfl, rfl, by decide +kernel, rfl, by decide +kernel, by decide +kernel⟩
abbrev s_Reader_take_word : Stmt := inClass (topS 18) 5
theorem sc_Reader_take_word : FnScope ["self", "choices"] ["self", "choices"] (defScope s_Reader_take_word) := ⟨rfl, rfl, rfl, by decide +kernel, rfl, by decide +kernel, by decide +kernel⟩
abbrev s_Reader_sees_key : Stmt := inClass (topS 18) 2
theorem sc_Reader_sees_key : FnScope ["self"] ["self"] (defScope s_Reader_sees_key) := ⟨rfl, rfl, rfl, by decide +kernel, rfl, by decide +kernel, by decide +kernel⟩
abbrev s_Reader_take_key : Stmt := inClass (topS 18) 6
theorem sc_Reader_take_key : FnScope ["self"] ["self"] (defScope s_Reader_take_key) := ⟨rfl, rfl, rfl, by decide +kernel, rfl, by decide +kernel, by decide +kernel⟩
abbrev s_Reader_take_keys : Stmt := inClass (topS 18) 7
theorem sc_Reader_take_keys : FnScope ["self", "keys"] ["self"] (defScope s_Reader_take_keys) := ⟨rfl, rfl, rfl, by decide +kernel, rfl, by decide +kernel, by decide +kernel⟩
abbrev s_read_commit : Stmt := topS 24
theorem sc_read_commit : FnScope ["reader", "version", "word"] ["reader"] (defScope s_read_commit) := ⟨rfl, rfl, rfl, by decide +kernel, rfl, by decide +kernel, by decide +kernel⟩
abbrev s_read_times : Stmt := topS 25
theorem sc_read_times : FnScope ["reader", "version", "word", "key"] ["reader"] (defScope s_read_times) := ⟨rfl, rfl, rfl, by decide +kernel, rfl, by decide +kernel, by decide +kernel⟩
abbrev s_read_value : Stmt := topS 26
theorem sc_read_value : FnScope ["reader", "number", "key"] ["reader"] (defScope s_read_value) := ⟨rfl, rfl, rfl, by decide +kernel, rfl, by decide +kernel, by decide +kernel⟩
abbrev s_read_piece : Stmt := topS 27
theorem sc_read_piece : FnScope ["reader", "word"] ["reader"] (defScope s_read_piece) := ⟨rfl, rfl, rfl, by decide +kernel, rfl, by decide +kernel, by decide +kernel⟩
abbrev s_read_pieces : Stmt := topS 28
theorem sc_read_pieces : FnScope ["reader", "news"] ["reader"] (defScope s_read_pieces) := ⟨rfl, rfl, rfl, by decide +kernel, rfl, by decide +kernel, by decide +kernel⟩
abbrev s_end_of_run : Stmt := topS 13
theorem sc_end_of_run : FnScope ["text", "start", "alphabet", "end"] ["text", "start", "alphabet"] (defScope s_end_of_run) := ⟨rfl, rfl, rfl, by decide +kernel, rfl, by decide +kernel, by decide +kernel⟩
abbrev s_end_of_token : Stmt := topS 14
theorem sc_end_of_token : FnScope ["text", "start", "digits", "end"] ["text", "start"] (defScope s_end_of_token) := ⟨rfl, rfl, rfl, by decide +kernel, rfl, by decide +kernel, by decide +kernel⟩
abbrev s_kind_of : Stmt := topS 15
theorem sc_kind_of : FnScope ["text", "start"] ["text", "start"] (defScope s_kind_of) := ⟨rfl, rfl, rfl, by decide +kernel, rfl, by decide +kernel, by decide +kernel⟩
abbrev s_scan : Stmt := topS 16
theorem sc_scan : FnScope ["text", "tokens", "place", "end"] ["text"] (defScope s_scan) := ⟨rfl, rfl, rfl, by decide +kernel, rfl, by decide +kernel, by decide +kernel⟩
abbrev s_parse_news : Stmt := topS 29
theorem sc_parse_news : FnScope ["text", "tokens", "reader", "news"] ["text"] (defScope s_parse_news) := ⟨rfl, rfl, rfl, by decide +kernel, rfl, by decide +kernel, by decide +kernel⟩
abbrev s__law_asked : Stmt := topS 46
theorem sc__law_asked : FnScope ["text", "found", "right", "error"] ["text"] (defScope s__law_asked) := ⟨rfl, rfl, rfl, by decide +kernel, rfl, by decide +kernel, by decide +kernel⟩
abbrev s__law_next : Stmt := topS 32
theorem sc__law_next : FnScope ["draw", "many", "found", "cell"] ["draw", "many"] (defScope s__law_next) := ⟨rfl, rfl, rfl, by decide +kernel, rfl, by decide +kernel, by decide +kernel⟩
abbrev s__law_changed : Stmt := topS 40
theorem sc__law_changed : FnScope ["draw", "tokens", "at", "form", "signs"] ["draw", "tokens"] (defScope s__law_changed) := ⟨rfl, rfl, rfl, by decide +kernel, rfl, by decide +kernel, by decide +kernel⟩
abbrev s__law_draw : Stmt := topS 31
theorem sc__law_draw : FnScope ["script"] ["script"] (defScope s__law_draw) := ⟨rfl, rfl, rfl, by decide +kernel, rfl, by decide +kernel, by decide +kernel⟩
abbrev s__law_next_states : Stmt := topS 42
theorem sc__law_next_states : FnScope ["state", "token", "number", "word"] ["state", "token"] (defScope s__law_next_states) := ⟨rfl, rfl, rfl, by decide +kernel, rfl, by decide +kernel, by decide +kernel⟩
abbrev s__law_start_of : Stmt := topS 43
theorem sc__law_start_of : FnScope ["tokens", "k"] ["tokens", "k"] (defScope s__law_start_of) := ⟨rfl, rfl, rfl, by decide +kernel, rfl, by decide +kernel, by decide +kernel⟩
abbrev s__law_range_wrong : Stmt := topS 44
theorem sc__law_range_wrong : FnScope ["tokens", "k", "at", "place", "form", "least", "most"] ["tokens"] (defScope s__law_range_wrong) := ⟨rfl, rfl, rfl, by decide +kernel, rfl, by decide +kernel, by decide +kernel⟩
abbrev s__law_due : Stmt := topS 45
theorem sc__law_due : FnScope ["tokens", "text", "places", "tight", "k", "state", "wrong", "many", "token"] ["tokens", "text", "places", "tight"] (defScope s__law_due) := ⟨rfl, rfl, rfl, by decide +kernel, rfl, by decide +kernel, by decide +kernel⟩
abbrev s__law_joined : Stmt := topS 41
theorem sc__law_joined : FnScope ["draw", "tokens", "text", "places", "tight", "k", "word", "behind", "apart", "close"] ["draw", "tokens"] (defScope s__law_joined) := ⟨rfl, rfl, rfl, by decide +kernel, rfl, by decide +kernel, by decide +kernel⟩
abbrev s__law_commits : Stmt := topS 35
theorem sc__law_commits : FnScope ["shelf", "found", "mark", "k"] ["shelf"] (defScope s__law_commits) := ⟨rfl, rfl, rfl, by decide +kernel, rfl, by decide +kernel, by decide +kernel⟩
abbrev s__law_bent : Stmt := topS 37
theorem sc__law_bent : FnScope ["draw", "shelf", "piece", "form", "commits"] ["draw", "shelf", "piece"] (defScope s__law_bent) := ⟨rfl, rfl, rfl, by decide +kernel, rfl, by decide +kernel, by decide +kernel⟩
abbrev s__law_told : Stmt := topS 36
theorem sc__law_told : FnScope ["draw", "shelf", "table", "most", "form", "key", "version", "commit", "more", "other", "k"] ["draw", "shelf", "table", "most"] (defScope s__law_told) := ⟨rfl, rfl, rfl, by decide +kernel, rfl, by decide +kernel, by decide +kernel⟩
abbrev s__law_news : Stmt := topS 38
theorem sc__law_news : FnScope ["draw", "shelf", "most", "many", "bends", "commits", "table", "k", "news", "piece"] ["draw", "shelf", "most", "many", "bends"] (defScope s__law_news) := ⟨rfl, rfl, rfl, by decide +kernel, rfl, by decide +kernel, by decide +kernel⟩
abbrev s__law_same : Stmt := topS 33
theorem sc__law_same : FnScope ["actual", "due", "k"] ["actual", "due"] (defScope s__law_same) := ⟨rfl, rfl, rfl, by decide +kernel, rfl, by decide +kernel, by decide +kernel⟩
abbrev s__law_shelf : Stmt := topS 34
theorem sc__law_shelf : FnScope ["draw"] ["draw"] (defScope s__law_shelf) := ⟨rfl, rfl, rfl, by decide +kernel, rfl, by decide +kernel, by decide +kernel⟩
abbrev s__law_tokens : Stmt := topS 39
theorem sc__law_tokens : FnScope ["piece", "rest"] ["piece"] (defScope s__law_tokens) := ⟨rfl, rfl, rfl, by decide +kernel, rfl, by decide +kernel, by decide +kernel⟩
abbrev s_law : Stmt := topS 47
theorem sc_law : FnScope ["script", "draw", "turn", "shelf", "many", "tokens", "piece", "times", "text", "places", "tight"] ["script"] (defScope s_law) := ⟨rfl, rfl, rfl, by decide +kernel, rfl, by decide +kernel, by decide +kernel⟩
abbrev s_TextError___init__ : Stmt := inClass (topS 2) 0
theorem sc_TextError___init__ : FnScope ["self", "place", "message"] ["self", "place", "message"] (defScope s_TextError___init__) := ⟨rfl, rfl, rfl, by decide +kernel, rfl, by decide +kernel, by decide +kernel⟩
abbrev s_TextError___str__ : Stmt := inClass (topS 2) 1
theorem sc_TextError___str__ : FnScope ["self"] ["self"] (defScope s_TextError___str__) := ⟨rfl, rfl, rfl, by decide +kernel, rfl, by decide +kernel, by decide +kernel⟩
structure Tx (K : PySem.W.Frag) (mg : Str → Option Value) where
  C_TextError : Addr
  C_SnapError : Addr
  fI : Addr
  dI : FuncData
  F_I : L2.Fun K "__init__" "TextError.__init__" s_TextError___init__ fI dI
  vI : Binds K dI ["self", "place", "message"] []
  fS : Addr
  dS : FuncData
  F_S : L2.Fun K "__str__" "TextError.__str__" s_TextError___str__ fS dS
  vS : Binds K dS ["self"] []
  etx : ETx K mg C_TextError C_SnapError fI fS
  C_Reader : Addr
  cl_Reader : Cls K C_Reader
  mC_Reader : mg "Reader" = some (.ref C_Reader)
  na_Reader_beyond : NoAttr K C_Reader "beyond"
  na_Reader_passed : NoAttr K C_Reader "passed"
  na_Reader_tokens : NoAttr K C_Reader "tokens"
  a_Reader___init__ : Addr
  d_Reader___init__ : FuncData
  F_Reader___init__ : L2.Fun K "__init__" "Reader.__init__" s_Reader___init__ a_Reader___init__ d_Reader___init__
  v_Reader___init__ : Binds K d_Reader___init__ ["self", "tokens"] []
  mt_Reader___init__ : Meth K C_Reader "__init__" a_Reader___init__
  a_Reader_sees : Addr
  d_Reader_sees : FuncData
  F_Reader_sees : L2.Fun K "sees" "Reader.sees" s_Reader_sees a_Reader_sees d_Reader_sees
  v_Reader_sees : Binds K d_Reader_sees ["self", "kind"] []
  mt_Reader_sees : Meth K C_Reader "sees" a_Reader_sees
  a_Reader_take : Addr
  d_Reader_take : FuncData
  F_Reader_take : L2.Fun K "take" "Reader.take" s_Reader_take a_Reader_take d_Reader_take
  v_Reader_take : Binds K d_Reader_take ["self", "fits"] []
  mt_Reader_take : Meth K C_Reader "take" a_Reader_take
  a_number_of : Addr
  d_number_of : FuncData
  F_number_of : L2.Fun K "number_of" "number_of" s_number_of a_number_of d_number_of
  m_number_of : mg "number_of" = some (.ref a_number_of)
  v_number_of : Binds K d_number_of ["word"] []
  k_number_of : PySem.W.keepIn K (.ref a_number_of) = true
  a_Reader_take_number : Addr
  d_Reader_take_number : FuncData
  F_Reader_take_number : L2.Fun K "take_number" "Reader.take_number" s_Reader_take_number a_Reader_take_number d_Reader_take_number
  v_Reader_take_number : Binds K d_Reader_take_number ["self", "least", "greatest"] []
  mt_Reader_take_number : Meth K C_Reader "take_number" a_Reader_take_number
  a_Reader_sees_word : Addr
  d_Reader_sees_word : FuncData
  F_Reader_sees_word : L2.Fun K "sees_word" "Reader.sees_word" s_Reader_sees_word a_Reader_sees_word d_Reader_sees_word
  v_Reader_sees_word : Binds K d_Reader_sees_word ["self", "choices"] []
  mt_Reader_sees_word : Meth K C_Reader "sees_word" a_Reader_sees_word
  a_Reader_take_word : Addr
  d_Reader_take_word : FuncData
  F_Reader_take_word : L2.Fun K "take_word" "Reader.take_word" s_Reader_take_word a_Reader_take_word d_Reader_take_word
  v_Reader_take_word : Binds K d_Reader_take_word ["self", "choices"] []
  mt_Reader_take_word : Meth K C_Reader "take_word" a_Reader_take_word
  a_Reader_sees_key : Addr
  d_Reader_sees_key : FuncData
  F_Reader_sees_key : L2.Fun K "sees_key" "Reader.sees_key" s_Reader_sees_key a_Reader_sees_key d_Reader_sees_key
  v_Reader_sees_key : Binds K d_Reader_sees_key ["self"] []
  mt_Reader_sees_key : Meth K C_Reader "sees_key" a_Reader_sees_key
  a_Reader_take_key : Addr
  d_Reader_take_key : FuncData
  F_Reader_take_key : L2.Fun K "take_key" "Reader.take_key" s_Reader_take_key a_Reader_take_key d_Reader_take_key
  v_Reader_take_key : Binds K d_Reader_take_key ["self"] []
  mt_Reader_take_key : Meth K C_Reader "take_key" a_Reader_take_key
  a_Reader_take_keys : Addr
  d_Reader_take_keys : FuncData
  F_Reader_take_keys : L2.Fun K "take_keys" "Reader.take_keys" s_Reader_take_keys a_Reader_take_keys d_Reader_take_keys
  v_Reader_take_keys : Binds K d_Reader_take_keys ["self"] []
  mt_Reader_take_keys : Meth K C_Reader "take_keys" a_Reader_take_keys
  a_read_commit : Addr
  d_read_commit : FuncData
  F_read_commit : L2.Fun K "read_commit" "read_commit" s_read_commit a_read_commit d_read_commit
  m_read_commit : mg "read_commit" = some (.ref a_read_commit)
  v_read_commit : Binds K d_read_commit ["reader"] []
  k_read_commit : PySem.W.keepIn K (.ref a_read_commit) = true
  a_read_times : Addr
  d_read_times : FuncData
  F_read_times : L2.Fun K "read_times" "read_times" s_read_times a_read_times d_read_times
  m_read_times : mg "read_times" = some (.ref a_read_times)
  v_read_times : Binds K d_read_times ["reader"] []
  k_read_times : PySem.W.keepIn K (.ref a_read_times) = true
  a_read_value : Addr
  d_read_value : FuncData
  F_read_value : L2.Fun K "read_value" "read_value" s_read_value a_read_value d_read_value
  m_read_value : mg "read_value" = some (.ref a_read_value)
  v_read_value : Binds K d_read_value ["reader"] []
  k_read_value : PySem.W.keepIn K (.ref a_read_value) = true
  a_read_piece : Addr
  d_read_piece : FuncData
  F_read_piece : L2.Fun K "read_piece" "read_piece" s_read_piece a_read_piece d_read_piece
  m_read_piece : mg "read_piece" = some (.ref a_read_piece)
  v_read_piece : Binds K d_read_piece ["reader"] []
  k_read_piece : PySem.W.keepIn K (.ref a_read_piece) = true
  a_read_pieces : Addr
  d_read_pieces : FuncData
  F_read_pieces : L2.Fun K "read_pieces" "read_pieces" s_read_pieces a_read_pieces d_read_pieces
  m_read_pieces : mg "read_pieces" = some (.ref a_read_pieces)
  v_read_pieces : Binds K d_read_pieces ["reader"] []
  k_read_pieces : PySem.W.keepIn K (.ref a_read_pieces) = true
  a_end_of_run : Addr
  d_end_of_run : FuncData
  F_end_of_run : L2.Fun K "end_of_run" "end_of_run" s_end_of_run a_end_of_run d_end_of_run
  m_end_of_run : mg "end_of_run" = some (.ref a_end_of_run)
  v_end_of_run : Binds K d_end_of_run ["text", "start", "alphabet"] []
  k_end_of_run : PySem.W.keepIn K (.ref a_end_of_run) = true
  a_end_of_token : Addr
  d_end_of_token : FuncData
  F_end_of_token : L2.Fun K "end_of_token" "end_of_token" s_end_of_token a_end_of_token d_end_of_token
  m_end_of_token : mg "end_of_token" = some (.ref a_end_of_token)
  v_end_of_token : Binds K d_end_of_token ["text", "start"] []
  k_end_of_token : PySem.W.keepIn K (.ref a_end_of_token) = true
  a_kind_of : Addr
  d_kind_of : FuncData
  F_kind_of : L2.Fun K "kind_of" "kind_of" s_kind_of a_kind_of d_kind_of
  m_kind_of : mg "kind_of" = some (.ref a_kind_of)
  v_kind_of : Binds K d_kind_of ["text", "start"] []
  k_kind_of : PySem.W.keepIn K (.ref a_kind_of) = true
  a_scan : Addr
  d_scan : FuncData
  F_scan : L2.Fun K "scan" "scan" s_scan a_scan d_scan
  m_scan : mg "scan" = some (.ref a_scan)
  v_scan : Binds K d_scan ["text"] []
  k_scan : PySem.W.keepIn K (.ref a_scan) = true
  a_parse_news : Addr
  d_parse_news : FuncData
  F_parse_news : L2.Fun K "parse_news" "parse_news" s_parse_news a_parse_news d_parse_news
  m_parse_news : mg "parse_news" = some (.ref a_parse_news)
  v_parse_news : Binds K d_parse_news ["text"] []
  k_parse_news : PySem.W.keepIn K (.ref a_parse_news) = true
  a__law_asked : Addr
  d__law_asked : FuncData
  F__law_asked : L2.Fun K "_law_asked" "_law_asked" s__law_asked a__law_asked d__law_asked
  m__law_asked : mg "_law_asked" = some (.ref a__law_asked)
  v__law_asked : Binds K d__law_asked ["text"] []
  k__law_asked : PySem.W.keepIn K (.ref a__law_asked) = true
  a__law_next : Addr
  d__law_next : FuncData
  F__law_next : L2.Fun K "_law_next" "_law_next" s__law_next a__law_next d__law_next
  m__law_next : mg "_law_next" = some (.ref a__law_next)
  v__law_next : Binds K d__law_next ["draw", "many"] []
  k__law_next : PySem.W.keepIn K (.ref a__law_next) = true
  a__law_changed : Addr
  d__law_changed : FuncData
  F__law_changed : L2.Fun K "_law_changed" "_law_changed" s__law_changed a__law_changed d__law_changed
  m__law_changed : mg "_law_changed" = some (.ref a__law_changed)
  v__law_changed : Binds K d__law_changed ["draw", "tokens"] []
  k__law_changed : PySem.W.keepIn K (.ref a__law_changed) = true
  a__law_draw : Addr
  d__law_draw : FuncData
  F__law_draw : L2.Fun K "_law_draw" "_law_draw" s__law_draw a__law_draw d__law_draw
  m__law_draw : mg "_law_draw" = some (.ref a__law_draw)
  v__law_draw : Binds K d__law_draw ["script"] []
  k__law_draw : PySem.W.keepIn K (.ref a__law_draw) = true
  a__law_next_states : Addr
  d__law_next_states : FuncData
  F__law_next_states : L2.Fun K "_law_next_states" "_law_next_states" s__law_next_states a__law_next_states d__law_next_states
  m__law_next_states : mg "_law_next_states" = some (.ref a__law_next_states)
  v__law_next_states : Binds K d__law_next_states ["state", "token"] []
  k__law_next_states : PySem.W.keepIn K (.ref a__law_next_states) = true
  a__law_start_of : Addr
  d__law_start_of : FuncData
  F__law_start_of : L2.Fun K "_law_start_of" "_law_start_of" s__law_start_of a__law_start_of d__law_start_of
  m__law_start_of : mg "_law_start_of" = some (.ref a__law_start_of)
  v__law_start_of : Binds K d__law_start_of ["tokens", "k"] []
  k__law_start_of : PySem.W.keepIn K (.ref a__law_start_of) = true
  a__law_range_wrong : Addr
  d__law_range_wrong : FuncData
  F__law_range_wrong : L2.Fun K "_law_range_wrong" "_law_range_wrong" s__law_range_wrong a__law_range_wrong d__law_range_wrong
  m__law_range_wrong : mg "_law_range_wrong" = some (.ref a__law_range_wrong)
  v__law_range_wrong : Binds K d__law_range_wrong ["tokens"] []
  k__law_range_wrong : PySem.W.keepIn K (.ref a__law_range_wrong) = true
  a__law_due : Addr
  d__law_due : FuncData
  F__law_due : L2.Fun K "_law_due" "_law_due" s__law_due a__law_due d__law_due
  m__law_due : mg "_law_due" = some (.ref a__law_due)
  v__law_due : Binds K d__law_due ["tokens", "text", "places", "tight"] []
  k__law_due : PySem.W.keepIn K (.ref a__law_due) = true
  a__law_joined : Addr
  d__law_joined : FuncData
  F__law_joined : L2.Fun K "_law_joined" "_law_joined" s__law_joined a__law_joined d__law_joined
  m__law_joined : mg "_law_joined" = some (.ref a__law_joined)
  v__law_joined : Binds K d__law_joined ["draw", "tokens"] []
  k__law_joined : PySem.W.keepIn K (.ref a__law_joined) = true
  a__law_commits : Addr
  d__law_commits : FuncData
  F__law_commits : L2.Fun K "_law_commits" "_law_commits" s__law_commits a__law_commits d__law_commits
  m__law_commits : mg "_law_commits" = some (.ref a__law_commits)
  v__law_commits : Binds K d__law_commits ["shelf"] []
  k__law_commits : PySem.W.keepIn K (.ref a__law_commits) = true
  a__law_bent : Addr
  d__law_bent : FuncData
  F__law_bent : L2.Fun K "_law_bent" "_law_bent" s__law_bent a__law_bent d__law_bent
  m__law_bent : mg "_law_bent" = some (.ref a__law_bent)
  v__law_bent : Binds K d__law_bent ["draw", "shelf", "piece"] []
  k__law_bent : PySem.W.keepIn K (.ref a__law_bent) = true
  a__law_told : Addr
  d__law_told : FuncData
  F__law_told : L2.Fun K "_law_told" "_law_told" s__law_told a__law_told d__law_told
  m__law_told : mg "_law_told" = some (.ref a__law_told)
  v__law_told : Binds K d__law_told ["draw", "shelf", "table", "most"] []
  k__law_told : PySem.W.keepIn K (.ref a__law_told) = true
  a__law_news : Addr
  d__law_news : FuncData
  F__law_news : L2.Fun K "_law_news" "_law_news" s__law_news a__law_news d__law_news
  m__law_news : mg "_law_news" = some (.ref a__law_news)
  v__law_news : Binds K d__law_news ["draw", "shelf", "most", "many", "bends"] []
  k__law_news : PySem.W.keepIn K (.ref a__law_news) = true
  a__law_same : Addr
  d__law_same : FuncData
  F__law_same : L2.Fun K "_law_same" "_law_same" s__law_same a__law_same d__law_same
  m__law_same : mg "_law_same" = some (.ref a__law_same)
  v__law_same : Binds K d__law_same ["actual", "due"] []
  k__law_same : PySem.W.keepIn K (.ref a__law_same) = true
  a__law_shelf : Addr
  d__law_shelf : FuncData
  F__law_shelf : L2.Fun K "_law_shelf" "_law_shelf" s__law_shelf a__law_shelf d__law_shelf
  m__law_shelf : mg "_law_shelf" = some (.ref a__law_shelf)
  v__law_shelf : Binds K d__law_shelf ["draw"] []
  k__law_shelf : PySem.W.keepIn K (.ref a__law_shelf) = true
  a__law_tokens : Addr
  d__law_tokens : FuncData
  F__law_tokens : L2.Fun K "_law_tokens" "_law_tokens" s__law_tokens a__law_tokens d__law_tokens
  m__law_tokens : mg "_law_tokens" = some (.ref a__law_tokens)
  v__law_tokens : Binds K d__law_tokens ["piece"] []
  k__law_tokens : PySem.W.keepIn K (.ref a__law_tokens) = true
  a_law : Addr
  d_law : FuncData
  F_law : L2.Fun K "law" "law" s_law a_law d_law
  m_law : mg "law" = some (.ref a_law)
  v_law : Binds K d_law ["script"] []
  k_law : PySem.W.keepIn K (.ref a_law) = true
  mk_Reader : Mk K C_Reader a_Reader___init__
  b_abs : mg "abs" = none
  b_all : mg "all" = none
  b_bool : mg "bool" = none
  b_int : mg "int" = none
  b_isinstance : mg "isinstance" = none
  b_len : mg "len" = none
  b_list : mg "list" = none
  b_max : mg "max" = none
  b_range : mg "range" = none
  b_set : mg "set" = none
  b_sorted : mg "sorted" = none
  b_str : mg "str" = none
  b_tuple : mg "tuple" = none
  t_BLANKS : Tok
  g_BLANKS : mg "BLANKS" = some (.str " \n" t_BLANKS)
  t_DIGITS : Tok
  g_DIGITS : mg "DIGITS" = some (.str "0123456789" t_DIGITS)
  t_END : Tok
  g_END : mg "END" = some (.str "end" t_END)
  t_FARTHEST_VALUE : Tok
  g_FARTHEST_VALUE : mg "FARTHEST_VALUE" = some (.int 1000000 t_FARTHEST_VALUE)
  t_GLUED : Tok
  g_GLUED : mg "GLUED" = some (.str "glued" t_GLUED)
  t_LAST_VERSION : Tok
  g_LAST_VERSION : mg "LAST_VERSION" = some (.int 20 t_LAST_VERSION)
  t_LETTERS : Tok
  g_LETTERS : mg "LETTERS" = some (.str "abcdefghijklmnopqrstuvwxyz" t_LETTERS)
  t_LONGEST_KEY : Tok
  g_LONGEST_KEY : mg "LONGEST_KEY" = some (.int 8 t_LONGEST_KEY)
  t_MOST_PIECES : Tok
  g_MOST_PIECES : mg "MOST_PIECES" = some (.int 40 t_MOST_PIECES)
  t_MOST_WRITES : Tok
  g_MOST_WRITES : mg "MOST_WRITES" = some (.int 20 t_MOST_WRITES)
  t_NUMBER : Tok
  g_NUMBER : mg "NUMBER" = some (.str "number" t_NUMBER)
  t_SEPARATOR : Tok
  g_SEPARATOR : mg "SEPARATOR" = some (.str "separator" t_SEPARATOR)
  t_WORD : Tok
  g_WORD : mg "WORD" = some (.str "word" t_WORD)
/-! ### signs and tokens -/
def isL (c : Nat) : Bool := decide (97 ≤ c) && decide (c ≤ 122)
def isD (c : Nat) : Bool := decide (48 ≤ c) && decide (c ≤ 57)
def isB (c : Nat) : Bool := decide (c = 32) || decide (c = 10)
theorem in_letters (c : Nat) : decide (c ∈ ("abcdefghijklmnopqrstuvwxyz" : Str).cps.toList) = isL c := by
  have e : ("abcdefghijklmnopqrstuvwxyz" : Str).cps.toList = List.range' 97 26 := by decide +kernel
  rw [e, Bool.eq_iff_iff]
  simp [isL, List.mem_range'_1]
  omega
theorem in_digits (c : Nat) : decide (c ∈ ("0123456789" : Str).cps.toList) = isD c := by
  have e : ("0123456789" : Str).cps.toList = List.range' 48 10 := by decide +kernel
  rw [e, Bool.eq_iff_iff]
  simp [isD, List.mem_range'_1]
  omega
theorem in_blanks (c : Nat) : decide (c ∈ (" \n" : Str).cps.toList) = isB c := by
  have e : (" \n" : Str).cps.toList = [32, 10] := by decide +kernel
  rw [e, Bool.eq_iff_iff]
  simp [isB]
theorem in_sign (t : Str) (c : Nat) : (!(Builtin.Str.occurrences t ⟨#[c]⟩ 0 t.length 1).isEmpty) = decide (c ∈ t.cps.toList) := StrLaws.found_one t c
def run (p : Nat → Bool) : List Nat → Nat
  | [] => 0
  | c :: l => if p c = true then run p l + 1 else 0
theorem run_le (p : Nat → Bool) : ∀ l, run p l ≤ l.length
  | [] => Nat.le_refl _
  | c :: l => by unfold run; split <;> simp <;> exact run_le p l
def tokLen : List Nat → Nat
  | [] => 0
  | c :: l => if c = 59 then 1 else if isL c = true then run isL (c :: l) else if c = 45 then (if run isD l = 0 then 0 else run isD l + 1) else run isD (c :: l)
def kindOf (glued : Bool) (c : Nat) : Str := if c = 59 then "separator" else if glued = true then "glued" else if isL c = true then "word" else "number"
def alnum (c : Nat) : Bool := isL c || isD c
structure Tk where
  k : Str
  t : List Nat
  p : Nat
def eTk (t : Tk) : D := .tup [.str t.k, .str ⟨t.t.toArray⟩, .int t.p]
/-- the tokens of a text up to the first unknown sign; b: whether the sign ahead is a letter or a digit -/
inductive Scn : Bool → Nat → List Nat → List Tk → Option Nat → Prop
  | nil {b p} : Scn b p [] [⟨"end", [], p⟩] none
  | bad {b p c l} (hb : isB c = false) (hn : tokLen (c :: l) = 0) : Scn b p (c :: l) [] (some p)
  | blank {b p c l ts r} (h : isB c = true) (r' : Scn false (p + 1) l ts r) : Scn b p (c :: l) ts r
  | tok {b p c t l ts r} (hb : isB c = false) (hn : tokLen (c :: t ++ l) = (c :: t).length) (r' : Scn (alnum ((c :: t).getLast (by simp))) (p + (c :: t).length) l ts r) : Scn b p (c :: t ++ l) (⟨kindOf b c, c :: t, p⟩ :: ts) r
def C_end_of_run : CT := fun ds μ Q => match ds with
  | [.str t, .int i, .str al] => ∃ k : Nat, i = k ∧ k ≤ t.length ∧ Q (.int ((k + run (fun c => decide (c ∈ al.cps.toList)) (t.cps.toList.drop k) : Nat) : Int)) μ
  | _ => False
def C_end_of_token : CT := fun ds μ Q => match ds with
  | [.str t, .int i] => ∃ k : Nat, i = k ∧ k < t.length ∧ Q (.int ((k + tokLen (t.cps.toList.drop k) : Nat) : Int)) μ
  | _ => False
def C_kind_of : CT := fun ds μ Q => match ds with
  | [.str t, .int i] => ∃ (k : Nat) (c : Nat) (b : Bool), i = k ∧ t.cps.toList[k]? = some c ∧ (b = true ↔ ∃ j d, k = j + 1 ∧ t.cps.toList[j]? = some d ∧ alnum d = true) ∧ Q (.str (kindOf b c)) μ
  | _ => False
def C_scan : CTX := fun ds μ Q Ed => match ds with
  | [.str t] => t.length ≤ 9000 ∧ ∃ ts r, Scn false 0 t.cps.toList ts r ∧ (match r with
    | none => Q (.lst (ts.map eTk)) μ
    | some q => Ed (q : Nat) "unknown character" μ)
  | _ => False
theorem stepx_set {i : Nat} {F : TF D} {REST : TSX} {E : EndsX} {ρ : DL.Env} {μ : Mu} (S : D → Mu → Prop) (hF : ∀ R : D → Mu → Prop, (∀ d μ', S d μ' → R d μ') → F ρ μ R) (h : ∀ d μ', S d μ' → REST E (ρ.set i (some d)) μ') : xSeq (xOf (sSet i F)) REST E ρ μ := hF _ h
theorem stepx {a REST : TSX} {E : EndsX} {ρ : DL.Env} {μ : Mu} (S : DL.Env → Mu → Prop) (ha : ∀ E' : EndsX, (∀ ρ' μ', S ρ' μ' → E'.nx ρ' μ') → E'.ex = E.ex → E'.rt = E.rt → a E' ρ μ) (h : ∀ ρ' μ', S ρ' μ' → REST E ρ' μ') : xSeq a REST E ρ μ := ha _ h rfl rfl
section
variable {P : Program} {w : World} {K : PySem.W.Frag} {mg : Str → Option Value} {base : Heap}
theorem ok_ini (T : Tx K mg) : FnOk P w K mg base CX0 1 T.fI T.dI ["self", "place", "message"] (spIni K) :=
  T.F_I.ok sc_TextError___init__ (fun vs H Q E ⟨a, C, y1, y2, e, _⟩ => by rw [e]; rfl) (fun cdv A outer s H vs Q E hr h => ⟨_, pss_cons (ps_ost (pe_var (i := 0) rfl (by first | exact Or.inl rfl | exact Or.inr (Or.inl rfl))) (pe_var (i := 1) rfl (by first | exact Or.inl rfl | exact Or.inr (Or.inl rfl)))) (pss_one (ps_ost (pe_var (i := 0) rfl (by first | exact Or.inl rfl | exact Or.inr (Or.inl rfl))) (pe_var (i := 2) rfl (by first | exact Or.inl rfl | exact Or.inr (Or.inl rfl))))), ini_read vs H Q E h⟩)
end
end K42
end

-- part E1
section
local macro_rules | `(tactic| walk_at "dl") => `(tactic| simp only [DL.sRet, DL.dJoined, DL.dJs, DL.dFmt, DL.dFld, DL.dMeth, DL.dMake, DL.sFld, DL.sFldI, DL.sSeq, DL.sSet, DL.sIf, DL.sNext, DL.sNever, DL.sDrop, DL.sAsg, DL.sRetN, DL.dVar, DL.dC, DL.dOp, DL.dTest, DL.dAnd, DL.dOr, DL.dNot, DL.dTru, DL.dAndV, DL.dOrV, DL.dNotV, DL.dIf, DL.aNil, DL.aCons, DL.dTup, DL.dLst, DL.dLstM, DL.dCall, DL.dFrz, DL.dB, DL.dNeg, DL.dSl, DL.oNone, DL.oSome, DL.dChn, DL.gN, DL.gT, DL.setAll, DL.fOf, DL.aNilX, DL.aConsX, DL.dTupX, DL.dLstMX, DL.dCallX, DL.dCallN, DL.dMethX, DL.xOf, DL.xNext, DL.xSeq, DL.xDrop, DL.xRet, DL.xIf, DL.xSet, DL.xFrz, DL.xApp, DL.xRaise, DL.dWix, DL.dWget, DL.optS,
  DL.ix_l, DL.ix_t, DL.ix_s, DL.ix_p, DL.add_i, DL.add_s, DL.add_l, DL.add_t, DL.mul_i, DL.mul_b, DL.sub_i, DL.fdiv_i, DL.mod_i, DL.pow_i, DL.shl_i, DL.shr_i, DL.and_i, DL.lt_i, DL.le_i, DL.gt_i, DL.ge_i, DL.le_s, DL.in_t, DL.in_l, DL.in_s, DL.len_l, DL.len_t, DL.len_s, DL.len_p, DL.list_l, DL.list_t, DL.list_s, DL.list_p, DL.tuple_l, DL.tuple_t, DL.int_i, DL.int_b, DL.abs_i, DL.max_i, DL.min_i, DL.all_l, DL.any_l, DL.isi_1, DL.isi_n, DL.sl_l, DL.sl_t, DL.sl_s, DL.neg_i, DL.isN_i, DL.notN_i, DL.eq_x, DL.ne_x,
  DL.w_wrote_many, DL.w_wrote_many_b, DL.w_wrote_among, DL.w_wrote_among_b, DL.w_wrote_did, DL.w_wrote_did_b, DL.w_wrote_times, DL.w_wrote_times_b, DL.w_wrote_value, DL.w_wrote_value_b, DL.w_wrote_head, DL.w_wrote_head_b, DL.w_many_wrote, DL.w_many_wrote_b, DL.w_many_among, DL.w_many_among_b, DL.w_many_did, DL.w_many_did_b, DL.w_many_times, DL.w_many_times_b, DL.w_many_value, DL.w_many_value_b, DL.w_many_head, DL.w_many_head_b, DL.w_among_wrote, DL.w_among_wrote_b, DL.w_among_many, DL.w_among_many_b, DL.w_among_did, DL.w_among_did_b, DL.w_among_times, DL.w_among_times_b, DL.w_among_value, DL.w_among_value_b, DL.w_among_head, DL.w_among_head_b, DL.w_did_wrote, DL.w_did_wrote_b, DL.w_did_many, DL.w_did_many_b, DL.w_did_among, DL.w_did_among_b, DL.w_did_times, DL.w_did_times_b, DL.w_did_value, DL.w_did_value_b, DL.w_did_head, DL.w_did_head_b, DL.w_times_wrote, DL.w_times_wrote_b, DL.w_times_many, DL.w_times_many_b, DL.w_times_among, DL.w_times_among_b, DL.w_times_did, DL.w_times_did_b, DL.w_times_value, DL.w_times_value_b, DL.w_times_head, DL.w_times_head_b, DL.w_value_wrote, DL.w_value_wrote_b, DL.w_value_many, DL.w_value_many_b, DL.w_value_among, DL.w_value_among_b, DL.w_value_did, DL.w_value_did_b, DL.w_value_times, DL.w_value_times_b, DL.w_value_head, DL.w_value_head_b, DL.w_head_wrote, DL.w_head_wrote_b, DL.w_head_many, DL.w_head_many_b, DL.w_head_among, DL.w_head_among_b, DL.w_head_did, DL.w_head_did_b, DL.w_head_times, DL.w_head_times_b, DL.w_head_value, DL.w_head_value_b,
  DL.q_ss, DL.q_ii, DL.q_bb, DL.q_nn, DL.q_tt, DL.q_ll, DL.q_si, DL.q_sn, DL.q_st, DL.q_sl, DL.q_is, DL.q_in, DL.q_it, DL.q_il, DL.q_ns, DL.q_ni, DL.q_nt, DL.q_nl, DL.q_ts, DL.q_ti, DL.q_tn, DL.q_tl, DL.q_ls, DL.q_li, DL.q_ln, DL.q_lt, DL.qs_nil, DL.qs_cons, DL.qs_nc, DL.qs_cn, DL.p_t16, DL.p_l16, DL.p_t15, DL.p_l15, DL.p_t14, DL.p_l14, DL.p_t13, DL.p_l13, DL.p_t12, DL.p_l12, DL.p_s, DL.p_i, DL.p_b, DL.p_n, DL.ps_nil, DL.ps_cons, DL.t_b, DL.t_i, DL.t_l, DL.t_t, DL.t_n, DL.n_n, DL.n_i, DL.n_s, DL.n_t, DL.n_l, DL.n_b, DL.f_s, DL.f_i,
  Bool.false_and, Bool.and_false, DL.z0, DL.z1, DL.z2, DL.z3, DL.z4, DL.z5, DL.z6, DL.z12,
  DL.startD, DL.sFrz, DL.sApp, DL.yesD, DL.lcTurn, DL.wipeE, DL.at0, DL.at1, DL.at2, DL.at3, DL.at4, List.map_cons, List.map_nil, List.replicate_succ, List.replicate_zero, List.length_cons, List.length_nil, List.cons_append, List.nil_append, List.set_cons_zero, List.set_cons_succ, List.getElem?_cons_zero, List.getElem?_cons_succ, Option.some.injEq, exists_eq_left, exists_eq_left', exists_eq', exists_eq, true_and, and_true, decide_eq_true_eq, if_true, if_false, Bool.false_eq_true, reduceIte, Nat.reduceAdd, Nat.reduceSub, DL.D.bl.injEq, DL.D.int.injEq, DL.D.str.injEq, DL.D.tup.injEq, DL.D.lst.injEq, DL.D.ptr.injEq, Bool.not_true, Bool.not_false, beq_self_eq_true, List.all_cons, List.all_nil, List.any_cons, List.any_nil, Bool.and_true, Bool.true_and, Bool.or_false, Bool.false_or, Bool.or_true, Bool.true_or, Bool.false_xor, Bool.true_xor, beq_iff_eq, Bool.not_eq_true, Int.reduceEq, Int.reduceBEq, and_self])

namespace K42
open PySem L2 DL
theorem at_nat {l : List Nat} {k c : Nat} (h : l[k]? = some c) : atI l (k : Int) = some c := by
  have hk : k < l.length := (List.getElem?_eq_some_iff.mp h).1
  obtain ⟨x, h1, h2⟩ := atI_in (l := l) (i := (k : Int)) (by omega) (by omega)
  rw [Int.toNat_natCast, h] at h2
  cases h2
  exact h1
theorem drop_at {l : List Nat} {k c : Nat} (h : l[k]? = some c) : l.drop k = c :: l.drop (k + 1) := by
  obtain ⟨hk, e⟩ := List.getElem?_eq_some_iff.mp h
  rw [List.drop_eq_getElem_cons hk, e]
theorem len_cps (t : Str) : t.cps.toList.length = t.length := Array.length_toList
theorem blank_al {c : Nat} (h : isB c = true) : alnum c = false := by
  simp [isB] at h
  rcases h with rfl | rfl <;> rfl
theorem cut_signs (t : Str) (a n : Nat) : cutS t (some ((a : Nat) : Int)) (some ((a + n : Nat) : Int)) = ⟨((t.cps.toList.drop a).take n).toArray⟩ := by
  have hl : t.cps.toList.length = t.length := Array.length_toList
  unfold cutS
  rw [HT.sIx_nat, HT.sIx_nat]
  congr 2
  by_cases h : a ≤ t.length
  · rw [Nat.min_eq_left h, List.take_eq_take_iff, List.length_drop, hl]
    omega
  · rw [List.drop_eq_nil_of_le (by omega), List.drop_eq_nil_of_le (by omega)]
    simp
theorem tok_cons (c : Nat) (l : List Nat) : tokLen (c :: l) = if c = 59 then 1 else if isL c = true then run isL (c :: l) else if c = 45 then (if run isD l = 0 then 0 else run isD l + 1) else run isD (c :: l) := rfl
theorem semi (c : Nat) : ((⟨#[c]⟩ : Str) = (";" : Str)) = (c = 59) := by
  rw [show (";" : Str) = ⟨#[59]⟩ from rfl]; simp
theorem dash (c : Nat) : ((⟨#[c]⟩ : Str) = ("-" : Str)) = (c = 45) := by
  rw [show ("-" : Str) = ⟨#[45]⟩ from rfl]; simp
theorem in_al (c : Nat) : decide (c ∈ (("abcdefghijklmnopqrstuvwxyz" : Str) ++ ("0123456789" : Str)).cps.toList) = alnum c := by
  have e : (("abcdefghijklmnopqrstuvwxyz" : Str) ++ ("0123456789" : Str)).cps.toList = ("abcdefghijklmnopqrstuvwxyz" : Str).cps.toList ++ ("0123456789" : Str).cps.toList := by decide +kernel
  rw [e]
  unfold alnum
  rw [← in_letters, ← in_digits, Bool.eq_iff_iff]
  simp
theorem run_L : run (fun c => decide (c ∈ ("abcdefghijklmnopqrstuvwxyz" : Str).cps.toList)) = run isL := by rw [show (fun c => decide (c ∈ ("abcdefghijklmnopqrstuvwxyz" : Str).cps.toList)) = isL from funext in_letters]
theorem run_D : run (fun c => decide (c ∈ ("0123456789" : Str).cps.toList)) = run isD := by rw [show (fun c => decide (c ∈ ("0123456789" : Str).cps.toList)) = isD from funext in_digits]
section
variable {P : Program} {w : World} {K : PySem.W.Frag} {mg : Str → Option Value} {base : Heap}
theorem ok_end_of_run (T : Tx K mg) : FnOk P w K mg base CX0 1 T.a_end_of_run T.d_end_of_run ["text", "start", "alphabet"] (spD K C_end_of_run) :=
  DL.Fun.okD (N := ["text", "start", "alphabet", "end"]) T.F_end_of_run sc_end_of_run (fun cdv A outer s H E hr => 
      (dss_cons (ds_set 3 sc_end_of_run.nd (dv 1)) 
      (dss_cons (ds_while PassesOwn.never (dw_pt (dw_and (dt_cmp op_ltD od_lt (dv 3) (de_B L2.call_len cd_len (by rfl) T.b_len (by decide +kernel) (da_cons (dv 0) da_nil)) (nomark _)) (dw_and1 (dt_cmp op_inD2 od_in (de_ix ix_seq od_ix (dv 0) (dv 3) (fun _ _ => rfl)) (dv 2) (by rfl))))) 
      (dss_one (ds_augI 3 sc_end_of_run.nd de_int ip_add))) 
      (dss_one (ds_ret (dv 3))))))
    (by intro ds μ Q h; unfold C_end_of_run at h; split at h <;> first | rfl | exact h.elim) (by
  intro ds μ Q h
  unfold C_end_of_run at h
  split at h
  · rename_i ds' t i al
    obtain ⟨k, rfl, hk, hq⟩ := h
    (walk_at "dl")
    refine ⟨fun m ρ' μ' => ∃ e : Nat, ρ' = [some (.str t), some (.int k), some (.str al), some (.int e)] ∧ μ' = μ ∧ e ≤ t.length ∧ e + run (fun c => decide (c ∈ al.cps.toList)) (t.cps.toList.drop e) = k + run (fun c => decide (c ∈ al.cps.toList)) (t.cps.toList.drop k) ∧ m = t.length - e, ⟨_, k, rfl, rfl, hk, rfl, rfl⟩, ?_⟩
    rintro m ρ' μ' ⟨e, rfl, rfl, he, hr, rfl⟩
    (walk_at "dl")
    have hl := len_cps t
    by_cases h1 : e < t.length
    · rw [if_pos (by omega)]
      obtain ⟨c, hc⟩ : ∃ c, t.cps.toList[e]? = some c := ⟨_, List.getElem?_eq_getElem (by omega)⟩
      refine ⟨c, at_nat hc, ?_⟩
      rw [in_sign]
      rw [drop_at hc] at hr
      simp only [run] at hr
      by_cases h2 : c ∈ al.cps.toList
      · simp only [h2, decide_true, if_true] at hr ⊢
        unfold sAugI
        (walk_at "dl")
        exact ⟨t.length - (e + 1), by omega, e + 1, rfl, by omega, by omega, rfl⟩
      · simp only [h2, decide_false, Bool.false_eq_true, if_false] at hr ⊢
        rw [show k + run (fun c => decide (c ∈ al.cps.toList)) (t.cps.toList.drop k) = e by omega] at hq
        exact hq
    · rw [if_neg (by omega)]
      have hd : t.cps.toList.drop e = [] := List.drop_eq_nil_of_le (by omega)
      rw [hd] at hr
      simp only [run] at hr
      rw [show k + run (fun c => decide (c ∈ al.cps.toList)) (t.cps.toList.drop k) = e by omega] at hq
      exact hq
  · exact h.elim
)

theorem ok_end_of_token (T : Tx K mg) : FnOk P w K mg base CX0 2 T.a_end_of_token T.d_end_of_token ["text", "start"] (spD K C_end_of_token) :=
  DL.Fun.okD (N := ["text", "start", "digits", "end"]) T.F_end_of_token sc_end_of_token (fun cdv A outer s H E hr => 
      (dss_cons (ds_if (dt_cmp (op_eqD hr.units) od_eq (de_ix ix_seq od_ix (dv 0) (dv 1) (fun _ _ => rfl)) (de_str) (nomark _)) 
      (dss_one (ds_ret (de_op op_addD od_add (dv 1) de_int))) dss_nil) 
      (dss_cons (ds_if (dt_cmp op_inD2 od_in (de_ix ix_seq od_ix (dv 0) (dv 1) (fun _ _ => rfl)) (de_globS rfl T.g_LETTERS) (by rfl)) 
      (dss_one (ds_ret (de_call (ok_end_of_run T) (hr.mono (by decide)) (by rfl) T.m_end_of_run T.k_end_of_run T.v_end_of_run pass0 (da_cons (dv 0) (da_cons (dv 1) (da_cons (de_globS rfl T.g_LETTERS) da_nil)))))) dss_nil) 
      (dss_cons (ds_set 2 sc_end_of_token.nd (de_if (dt_cmp (op_eqD hr.units) od_eq (de_ix ix_seq od_ix (dv 0) (dv 1) (fun _ _ => rfl)) (de_str) (nomark _)) (de_op op_addD od_add (dv 1) de_int) (dv 1))) 
      (dss_cons (ds_set 3 sc_end_of_token.nd (de_call (ok_end_of_run T) (hr.mono (by decide)) (by rfl) T.m_end_of_run T.k_end_of_run T.v_end_of_run pass0 (da_cons (dv 0) (da_cons (dv 2) (da_cons (de_globS rfl T.g_DIGITS) da_nil))))) 
      (dss_one (ds_ret (de_if (dt_cmp op_gtD od_gt (dv 3) (dv 2) (nomark _)) (dv 3) (dv 1)))))))))
    (by intro ds μ Q h; unfold C_end_of_token at h; split at h <;> first | rfl | exact h.elim) (by
  intro ds μ Q h
  unfold C_end_of_token at h
  split at h
  · rename_i ds' t i
    obtain ⟨k, rfl, hk, hq⟩ := h
    have hl := len_cps t
    obtain ⟨c, hc⟩ : ∃ c, t.cps.toList[k]? = some c := ⟨_, List.getElem?_eq_getElem (by omega)⟩
    rw [drop_at hc] at hq
    (walk_at "dl")
    simp only [semi, dash, in_sign, in_letters]
    refine ⟨c, at_nat hc, ?_⟩
    rw [tok_cons] at hq
    by_cases h1 : c = 59
    · rw [if_pos h1] at hq ⊢
      exact hq
    · rw [if_neg h1] at hq ⊢
      refine ⟨c, at_nat hc, ?_⟩
      cases h2 : isL c with
      | true =>
        rw [if_pos h2] at hq
        rw [if_pos rfl]
        refine ⟨k, rfl, by omega, ?_⟩
        rw [run_L, drop_at hc]
        exact hq
      | false =>
        rw [if_neg (by rw [h2]; decide)] at hq
        rw [if_neg (by decide)]
        refine ⟨c, at_nat hc, ?_⟩
        by_cases h3 : c = 45
        · rw [if_pos h3] at hq ⊢
          refine ⟨k + 1, by omega, by omega, ?_⟩
          rw [run_D]
          (walk_at "dl")
          by_cases h4 : run isD (t.cps.toList.drop (k + 1)) = 0
          · rw [if_pos h4] at hq
            rw [if_neg (by omega)]
            exact hq
          · rw [if_neg h4] at hq
            rw [if_pos (by omega)]
            rw [show k + 1 + run isD (t.cps.toList.drop (k + 1)) = k + (run isD (t.cps.toList.drop (k + 1)) + 1) by omega]
            exact hq
        · rw [if_neg h3] at hq ⊢
          refine ⟨k, rfl, by omega, ?_⟩
          rw [run_D, drop_at hc]
          (walk_at "dl")
          by_cases h4 : run isD (c :: t.cps.toList.drop (k + 1)) = 0
          · rw [h4] at hq ⊢
            rw [if_neg (by omega)]
            exact hq
          · rw [if_pos (by omega)]
            exact hq
  · exact h.elim
)

theorem ok_kind_of (T : Tx K mg) : FnOk P w K mg base CX0 1 T.a_kind_of T.d_kind_of ["text", "start"] (spD K C_kind_of) :=
  DL.Fun.okD (N := ["text", "start"]) T.F_kind_of sc_kind_of (fun cdv A outer s H E hr => 
      (dss_cons (ds_if (dt_cmp (op_eqD hr.units) od_eq (de_ix ix_seq od_ix (dv 0) (dv 1) (fun _ _ => rfl)) (de_str) (nomark _)) 
      (dss_one (ds_ret (de_globS rfl T.g_SEPARATOR))) dss_nil) 
      (dss_cons (ds_if (dw_pt (dw_and (dt_cmp op_gtD od_gt (dv 1) de_int (nomark _)) (dw_and1 (dt_cmp op_inD2 od_in (de_ix ix_seq od_ix (dv 0) (de_op op_sub od_sub (dv 1) de_int) (fun _ _ => rfl)) (de_op op_addD od_add (de_globS rfl T.g_LETTERS) (de_globS rfl T.g_DIGITS)) (by rfl))))) 
      (dss_one (ds_ret (de_globS rfl T.g_GLUED))) dss_nil) 
      (dss_one (ds_ret (de_if (dt_cmp op_inD2 od_in (de_ix ix_seq od_ix (dv 0) (dv 1) (fun _ _ => rfl)) (de_globS rfl T.g_LETTERS) (by rfl)) (de_globS rfl T.g_WORD) (de_globS rfl T.g_NUMBER)))))))
    (by intro ds μ Q h; unfold C_kind_of at h; split at h <;> first | rfl | exact h.elim) (by
  intro ds μ Q h
  unfold C_kind_of at h
  split at h
  · rename_i ds' t i
    obtain ⟨k, c, b, rfl, hc, hb, hq⟩ := h
    (walk_at "dl")
    simp only [semi, in_sign, in_letters, in_al]
    refine ⟨c, at_nat hc, ?_⟩
    unfold kindOf at hq
    by_cases h1 : c = 59
    · rw [if_pos h1] at hq ⊢
      exact hq
    · rw [if_neg h1] at hq ⊢
      have tail : b = false → ∃ c, atI t.cps.toList ↑k = some c ∧ if isL c = true then Q (D.str (Str.ofString "word")) μ else Q (D.str (Str.ofString "number")) μ := fun hf => by
        rw [if_neg (by rw [hf]; decide)] at hq
        refine ⟨c, at_nat hc, ?_⟩
        cases h2 : isL c with
        | true => rw [if_pos h2] at hq; exact hq
        | false => rw [if_neg (by rw [h2]; decide)] at hq; exact hq
      by_cases h2 : 0 < k
      · rw [if_pos (by omega)]
        obtain ⟨d, hd⟩ : ∃ d, t.cps.toList[k - 1]? = some d := ⟨_, List.getElem?_eq_getElem (by have := (List.getElem?_eq_some_iff.mp hc).1; omega)⟩
        refine ⟨d, by rw [show ((k : Int) - 1) = ((k - 1 : Nat) : Int) by omega]; exact at_nat hd, by decide +kernel, ?_⟩
        cases h3 : alnum d with
        | true =>
          have : b = true := hb.mpr ⟨k - 1, d, by omega, hd, h3⟩
          rw [if_pos this] at hq
          exact hq
        | false =>
          refine tail ?_
          cases hbb : b with
          | false => rfl
          | true =>
            obtain ⟨j, d', e1, e2, e3⟩ := hb.mp hbb
            have : j = k - 1 := by omega
            subst this
            rw [hd] at e2; cases e2
            rw [h3] at e3; cases e3
      · rw [if_neg (by omega)]
        refine tail ?_
        cases hbb : b with
        | false => rfl
        | true =>
          obtain ⟨j, d', e1, e2, e3⟩ := hb.mp hbb
          omega
  · exact h.elim
)

theorem ok_scan (T : Tx K mg) : FnOk P w K mg base (L2.CX P w) 3 T.a_scan T.d_scan ["text"] (spX T.C_TextError K C_scan) :=
  DL.Fun.okXf (N := ["text", "tokens", "place", "end"]) T.F_scan sc_scan (fun cdv A outer s H E hr => 
      (ssx_cons (sx_of (ds_set 1 sc_scan.nd (de_lstM da_nil))) 
      (ssx_cons (sx_of (ds_set 2 sc_scan.nd de_int)) 
      (ssx_cons (sx_while (passes_of rfl) (dt_cmp op_ltD od_lt (dv 2) (de_B L2.call_len cd_len (by rfl) T.b_len (by decide +kernel) (da_cons (dv 0) da_nil)) (nomark _)) 
      (ssx_cons (sx_of (ds_if (dt_cmp op_inD2 od_in (de_ix ix_seq od_ix (dv 0) (dv 2) (fun _ _ => rfl)) (de_globS rfl T.g_BLANKS) (by rfl)) 
      (dss_cons (ds_augI 2 sc_scan.nd de_int ip_add) 
      (dss_one ds_continue)) dss_nil)) 
      (ssx_cons (sx_of (ds_set 3 sc_scan.nd (de_call (ok_end_of_token T) (hr.mono (by decide)) (by rfl) T.m_end_of_token T.k_end_of_token T.v_end_of_token pass0 (da_cons (dv 0) (da_cons (dv 2) da_nil))))) 
      (ssx_cons (sx_if (dt_cmp (op_eqD hr.units) od_eq (dv 3) (dv 2) (nomark _)) 
      (ssx_one (sx_raise T.etx (ok_ini T) T.vI (hr.mono (by decide)) rfl (takes_of rfl rfl rfl rfl) (da_cons (dv 2) (da_cons (de_str) da_nil)))) ssx_nil) 
      (ssx_cons (sx_of (ds_app (dv 1) (de_tup (da_cons (de_call (ok_kind_of T) (hr.mono (by decide)) (by rfl) T.m_kind_of T.k_kind_of T.v_kind_of pass0 (da_cons (dv 0) (da_cons (dv 2) da_nil))) (da_cons (de_sl (dv 0) (do_some (dv 2)) (do_some (dv 3))) (da_cons (dv 2) da_nil)))))) 
      (ssx_one (sx_of (ds_set 2 sc_scan.nd (dv 3))))))))) 
      (ssx_cons (sx_of (ds_app (dv 1) (de_tup (da_cons (de_globS rfl T.g_END) (da_cons (de_str) (da_cons (de_B L2.call_len cd_len (by rfl) T.b_len (by decide +kernel) (da_cons (dv 0) da_nil)) da_nil)))))) 
      (ssx_frz 1 (ssx_one (sx_of (ds_ret (dv 1))))))))))
    (by intro ds μ Q Ed h; unfold C_scan at h; split at h <;> first | rfl | exact h.elim) (by
  intro ds μ Q Ed h
  unfold C_scan at h
  split at h
  · rename_i ds' t
    obtain ⟨hl, ts, r, hlay, hq⟩ := h
    have hlc := len_cps t
    refine stepx_set (fun d μ' => ∃ p, d = .ptr p ∧ μ p = none ∧ μ' = μ.put p (.lst [])) (fun R hR => ?_) fun d μ' hS => ?_
    · (walk_at "dl")
      exact fun p hp => hR _ _ ⟨p, rfl, hp, rfl⟩
    obtain ⟨p, rfl, hp, rfl⟩ := hS
    show xSeq _ _ _ [some (.str t), some (.ptr p), none, none] _
    refine stepx_set (fun d μ' => d = .int ((0 : Nat) : Int) ∧ μ' = μ.put p (.lst [])) (fun R hR => ?_) fun d μ' hS => ?_
    · (walk_at "dl")
      exact hR _ _ ⟨rfl, rfl⟩
    obtain ⟨rfl, rfl⟩ := hS
    show xSeq _ _ _ [some (.str t), some (.ptr p), some (.int ((0 : Nat) : Int)), none] _
    refine stepx (fun ρ' μ' => ∃ (k : Nat) (x : Option D) (done : List Tk), ρ' = [some (.str t), some (.ptr p), some (.int k), x] ∧ μ' = μ.put p (.lst (done.map eTk)) ∧ done ++ [⟨"end", [], t.length⟩] = ts ∧ done.length ≤ t.length ∧ r = none) (fun E' hE' hEx hRt => ?_) fun ρ' μ' hS => ?_
    · refine ⟨fun m ρ' μ' => ∃ (k : Nat) (x : Option D) (done : List Tk) (b : Bool) (rest : List Tk), ρ' = [some (.str t), some (.ptr p), some (.int k), x] ∧ μ' = μ.put p (.lst (done.map eTk)) ∧ k ≤ t.length ∧ Scn b k (t.cps.toList.drop k) rest r ∧ done ++ rest = ts ∧ done.length ≤ k ∧
        (b = true ↔ ∃ j d, k = j + 1 ∧ t.cps.toList[j]? = some d ∧ alnum d = true) ∧ m = t.length - k, ⟨_, 0, _, [], false, ts, rfl, rfl, by omega, by simpa using hlay, rfl, by simp, ?_, rfl⟩, ?_⟩
      · simp
      rintro m ρ' μ' ⟨k, x, done, b, rest, rfl, rfl, hk, hly, hts, hdl, hb, rfl⟩
      (walk_at "dl")
      by_cases hlt : k < t.length
      · rw [if_pos (by omega)]
        obtain ⟨c, hc⟩ : ∃ c, t.cps.toList[k]? = some c := ⟨_, List.getElem?_eq_getElem (by omega)⟩
        refine ⟨c, at_nat hc, ?_⟩
        rw [in_sign, in_blanks]
        have e := drop_at hc
        rw [e] at hly
        generalize hL : c :: t.cps.toList.drop (k + 1) = L at hly
        cases hly with
        | nil => cases hL
        | bad hbk hn =>
          injection hL with e1 e2
          subst e1; subst e2
          rw [if_neg (by rw [hbk]; decide)]
          refine ⟨k, rfl, hlt, ?_⟩
          rw [e, hn]
          refine ⟨p_i, ?_⟩
          rw [q_ii, if_pos (by simp)]
          refine ⟨_, _, rfl, ?_⟩
          rw [hEx]
          exact ⟨μ, Sub.put hp, hq⟩
        | blank h r' =>
          injection hL with e1 e2
          subst e1; subst e2
          rw [if_pos h]
          unfold sAugI sCont
          (walk_at "dl")
          refine ⟨t.length - (k + 1), by omega, k + 1, _, done, false, _, rfl, rfl, by omega, r', hts, by omega, ?_, rfl⟩
          simp only [Bool.false_eq_true, false_iff]
          rintro ⟨j, d, e3, e4, e5⟩
          have : j = k := by omega
          subst this
          rw [hc] at e4; cases e4
          rw [blank_al h] at e5; cases e5
        | @tok b p' c' t' l' ts' _ hbk hn r' =>
          have e1 : c = c' := by injection hL
          have e2 : t.cps.toList.drop (k + 1) = t' ++ l' := by injection hL
          subst e1
          have hlen := congrArg List.length e2
          rw [List.length_drop, List.length_append, hlc] at hlen
          rw [if_neg (by rw [hbk]; decide)]
          refine ⟨k, rfl, hlt, ?_⟩
          rw [e, e2, show c :: (t' ++ l') = c :: t' ++ l' from rfl, hn, List.length_cons]
          refine ⟨p_i, ?_⟩
          rw [q_ii, if_neg (by simp; omega)]
          have hcut : cutS t (some ((k : Nat) : Int)) (some ((k + (t'.length + 1) : Nat) : Int)) = ⟨(c :: t').toArray⟩ := by
            rw [cut_signs, e, e2, show c :: (t' ++ l') = (c :: t') ++ l' from rfl, List.take_left' (by rw [List.length_cons])]
          refine ⟨p, _, rfl, Mu.put_same, k, c, b, rfl, hc, hb, _, rfl, _, Mu.put_same, sz_small' (by rw [List.length_map]; omega), t.length - (k + (t'.length + 1)), by omega, k + (t'.length + 1), _, done ++ [⟨kindOf b c, c :: t', k⟩], alnum ((c :: t').getLast (by simp)), ts', rfl, ?_, by omega, ?_, ?_, by rw [List.length_append, List.length_singleton]; omega, ?_, rfl⟩
          · rw [Mu.put_put, hcut, List.map_append]; rfl
          · have e3 : t.cps.toList.drop (k + (t'.length + 1)) = l' := by
              rw [show k + (t'.length + 1) = (k + 1) + t'.length by omega, ← List.drop_drop, e2, List.drop_left' rfl]
            rw [e3]
            exact r'
          · rw [← hts, List.append_assoc]; rfl
          · have e4 : t.cps.toList[k + t'.length]? = some ((c :: t').getLast (by simp)) := by
              have h1 : (t.cps.toList.drop k)[t'.length]? = some ((c :: t').getLast (by simp)) := by
                rw [e, e2, show c :: (t' ++ l') = (c :: t') ++ l' from rfl, List.getElem?_append_left (by simp), List.getLast_eq_getElem]
                simp
              rw [List.getElem?_drop] at h1
              exact h1
            constructor
            · intro h
              exact ⟨k + t'.length, _, by omega, e4, h⟩
            · rintro ⟨j, d, e5, e6, e7⟩
              have : j = k + t'.length := by omega
              subst this
              rw [e4] at e6; cases e6
              exact e7
      · rw [if_neg (by omega)]
        have hkl : k = t.length := by omega
        subst hkl
        rw [List.drop_eq_nil_of_le (by omega)] at hly
        generalize hL : ([] : List Nat) = L at hly
        cases hly with
        | nil => exact hE' _ _ ⟨_, x, done, rfl, rfl, hts, hdl, rfl⟩
        | bad hbk hn => cases hL
        | blank h r => cases hL
        | tok hbk hn r => cases hL
    obtain ⟨k, x, done, rfl, rfl, hts, hdl, rfl⟩ := hS
    (walk_at "dl")
    refine ⟨p, _, rfl, Mu.put_same, _, Mu.put_same, sz_small' (by rw [List.length_map]; omega), p, _, rfl, Mu.put_same, μ, ?_, ?_⟩
    · rw [Mu.put_put, Mu.put_del hp]
      exact fun _ _ h => h
    · rw [← hts, List.map_append] at hq
      exact hq
  · exact h.elim
)

end
end K42
end

-- part E2
section
local macro_rules | `(tactic| walk_at "dl") => `(tactic| simp only [DL.sRet, DL.dJoined, DL.dJs, DL.dFmt, DL.dFld, DL.dMeth, DL.dMake, DL.sFld, DL.sFldI, DL.sSeq, DL.sSet, DL.sIf, DL.sNext, DL.sNever, DL.sDrop, DL.sAsg, DL.sRetN, DL.dVar, DL.dC, DL.dOp, DL.dTest, DL.dAnd, DL.dOr, DL.dNot, DL.dTru, DL.dAndV, DL.dOrV, DL.dNotV, DL.dIf, DL.aNil, DL.aCons, DL.dTup, DL.dLst, DL.dLstM, DL.dCall, DL.dFrz, DL.dB, DL.dNeg, DL.dSl, DL.oNone, DL.oSome, DL.dChn, DL.gN, DL.gT, DL.setAll, DL.fOf, DL.aNilX, DL.aConsX, DL.dTupX, DL.dLstMX, DL.dCallX, DL.dCallN, DL.dMethX, DL.xOf, DL.xNext, DL.xSeq, DL.xDrop, DL.xRet, DL.xIf, DL.xSet, DL.xFrz, DL.xApp, DL.xRaise, DL.dWix, DL.dWget, DL.optS,
  DL.ix_l, DL.ix_t, DL.ix_s, DL.ix_p, DL.add_i, DL.add_s, DL.add_l, DL.add_t, DL.mul_i, DL.mul_b, DL.sub_i, DL.fdiv_i, DL.mod_i, DL.pow_i, DL.shl_i, DL.shr_i, DL.and_i, DL.lt_i, DL.le_i, DL.gt_i, DL.ge_i, DL.le_s, DL.in_t, DL.in_l, DL.in_s, DL.len_l, DL.len_t, DL.len_s, DL.len_p, DL.list_l, DL.list_t, DL.list_s, DL.list_p, DL.tuple_l, DL.tuple_t, DL.int_i, DL.int_b, DL.abs_i, DL.max_i, DL.min_i, DL.all_l, DL.any_l, DL.isi_1, DL.isi_n, DL.sl_l, DL.sl_t, DL.sl_s, DL.neg_i, DL.isN_i, DL.notN_i, DL.eq_x, DL.ne_x,
  DL.w_wrote_many, DL.w_wrote_many_b, DL.w_wrote_among, DL.w_wrote_among_b, DL.w_wrote_did, DL.w_wrote_did_b, DL.w_wrote_times, DL.w_wrote_times_b, DL.w_wrote_value, DL.w_wrote_value_b, DL.w_wrote_head, DL.w_wrote_head_b, DL.w_many_wrote, DL.w_many_wrote_b, DL.w_many_among, DL.w_many_among_b, DL.w_many_did, DL.w_many_did_b, DL.w_many_times, DL.w_many_times_b, DL.w_many_value, DL.w_many_value_b, DL.w_many_head, DL.w_many_head_b, DL.w_among_wrote, DL.w_among_wrote_b, DL.w_among_many, DL.w_among_many_b, DL.w_among_did, DL.w_among_did_b, DL.w_among_times, DL.w_among_times_b, DL.w_among_value, DL.w_among_value_b, DL.w_among_head, DL.w_among_head_b, DL.w_did_wrote, DL.w_did_wrote_b, DL.w_did_many, DL.w_did_many_b, DL.w_did_among, DL.w_did_among_b, DL.w_did_times, DL.w_did_times_b, DL.w_did_value, DL.w_did_value_b, DL.w_did_head, DL.w_did_head_b, DL.w_times_wrote, DL.w_times_wrote_b, DL.w_times_many, DL.w_times_many_b, DL.w_times_among, DL.w_times_among_b, DL.w_times_did, DL.w_times_did_b, DL.w_times_value, DL.w_times_value_b, DL.w_times_head, DL.w_times_head_b, DL.w_value_wrote, DL.w_value_wrote_b, DL.w_value_many, DL.w_value_many_b, DL.w_value_among, DL.w_value_among_b, DL.w_value_did, DL.w_value_did_b, DL.w_value_times, DL.w_value_times_b, DL.w_value_head, DL.w_value_head_b, DL.w_head_wrote, DL.w_head_wrote_b, DL.w_head_many, DL.w_head_many_b, DL.w_head_among, DL.w_head_among_b, DL.w_head_did, DL.w_head_did_b, DL.w_head_times, DL.w_head_times_b, DL.w_head_value, DL.w_head_value_b,
  DL.q_ss, DL.q_ii, DL.q_bb, DL.q_nn, DL.q_tt, DL.q_ll, DL.q_si, DL.q_sn, DL.q_st, DL.q_sl, DL.q_is, DL.q_in, DL.q_it, DL.q_il, DL.q_ns, DL.q_ni, DL.q_nt, DL.q_nl, DL.q_ts, DL.q_ti, DL.q_tn, DL.q_tl, DL.q_ls, DL.q_li, DL.q_ln, DL.q_lt, DL.qs_nil, DL.qs_cons, DL.qs_nc, DL.qs_cn, DL.p_t16, DL.p_l16, DL.p_t15, DL.p_l15, DL.p_t14, DL.p_l14, DL.p_t13, DL.p_l13, DL.p_t12, DL.p_l12, DL.p_s, DL.p_i, DL.p_b, DL.p_n, DL.ps_nil, DL.ps_cons, DL.t_b, DL.t_i, DL.t_l, DL.t_t, DL.t_n, DL.n_n, DL.n_i, DL.n_s, DL.n_t, DL.n_l, DL.n_b, DL.f_s, DL.f_i,
  Bool.false_and, Bool.and_false, DL.z0, DL.z1, DL.z2, DL.z3, DL.z4, DL.z5, DL.z6, DL.z12,
  DL.startD, DL.sFrz, DL.sApp, DL.yesD, DL.lcTurn, DL.wipeE, DL.at0, DL.at1, DL.at2, DL.at3, DL.at4, List.map_cons, List.map_nil, List.replicate_succ, List.replicate_zero, List.length_cons, List.length_nil, List.cons_append, List.nil_append, List.set_cons_zero, List.set_cons_succ, List.getElem?_cons_zero, List.getElem?_cons_succ, Option.some.injEq, exists_eq_left, exists_eq_left', exists_eq', exists_eq, true_and, and_true, decide_eq_true_eq, if_true, if_false, Bool.false_eq_true, reduceIte, Nat.reduceAdd, Nat.reduceSub, DL.D.bl.injEq, DL.D.int.injEq, DL.D.str.injEq, DL.D.tup.injEq, DL.D.lst.injEq, DL.D.ptr.injEq, Bool.not_true, Bool.not_false, beq_self_eq_true, List.all_cons, List.all_nil, List.any_cons, List.any_nil, Bool.and_true, Bool.true_and, Bool.or_false, Bool.false_or, Bool.or_true, Bool.true_or, Bool.false_xor, Bool.true_xor, beq_iff_eq, Bool.not_eq_true, Int.reduceEq, Int.reduceBEq, and_self])

namespace K42
open PySem L2 DL
def bD : Option Nat → D
  | none => .non
  | some p => .int p
def flds (ts : List Tk) (i : Nat) (b : Option Nat) : List (Str × D) := [("tokens", .lst (ts.map eTk)), ("passed", .int i), ("beyond", bD b)]
theorem n_tt : (("passed" : Str) == "tokens") = false := by decide +kernel
theorem n_bt : (("beyond" : Str) == "tokens") = false := by decide +kernel
theorem n_bk : (("beyond" : Str) == "passed") = false := by decide +kernel
theorem l_tokens (ts : List Tk) (i : Nat) (b : Option Nat) : (flds ts i b).lookup ("tokens" : Str) = some (.lst (ts.map eTk)) := by
  unfold flds; rw [List.lookup_cons, beq_self_eq_true]
theorem l_passed (ts : List Tk) (i : Nat) (b : Option Nat) : (flds ts i b).lookup ("passed" : Str) = some (.int i) := by
  unfold flds; rw [List.lookup_cons, n_tt, List.lookup_cons, beq_self_eq_true]
theorem l_beyond (ts : List Tk) (i : Nat) (b : Option Nat) : (flds ts i b).lookup ("beyond" : Str) = some (bD b) := by
  unfold flds; rw [List.lookup_cons, n_bt, List.lookup_cons, n_bk, List.lookup_cons, beq_self_eq_true]
theorem l_no {m : Str} (ts : List Tk) (i : Nat) (b : Option Nat) (h1 : (m == "tokens") = false) (h2 : (m == "passed") = false) (h3 : (m == "beyond") = false) : (flds ts i b).lookup m = none := by
  unfold flds; rw [List.lookup_cons, h1, List.lookup_cons, h2, List.lookup_cons, h3]; rfl
theorem put_passed (ts : List Tk) (i : Nat) (b : Option Nat) : putD "passed" (.int ((i : Int) + 1)) (flds ts i b) = flds ts (i + 1) b := by
  unfold flds putD
  rw [if_neg (by decide +kernel)]
  unfold putD
  rw [if_pos rfl]
  rfl
theorem put_comm {μ : Mu} {a b : Addr} {o u : MO} (h : a ≠ b) : (μ.put a o).put b u = (μ.put b u).put a o := by
  funext c; unfold Mu.put
  by_cases e : c = b
  · subst e; rw [if_pos rfl, if_neg (Ne.symm h), if_pos rfl]
  · rw [if_neg e]; by_cases e2 : c = a
    · rw [if_pos e2, if_pos e2]
    · rw [if_neg e2, if_neg e2, if_neg e]
theorem fld_at {μ : Mu} {C r : Addr} {fs0 : List (Str × D)} {f : Str} {d0 : D} {Q : D → Prop} (h : μ r = some (.ins C fs0)) (hl : fs0.lookup f = some d0) : (∃ a fs d, r = a ∧ μ a = some (MO.ins C fs) ∧ List.lookup f fs = some d ∧ Q d) = Q d0 := by
  refine propext ⟨fun ⟨a, fs, d, e, h1, h2, q⟩ => ?_, fun q => ⟨r, fs0, d0, rfl, h, hl, q⟩⟩
  subst e
  rw [h] at h1
  cases h1
  rw [hl] at h2
  cases h2
  exact q
theorem put_beyond (ts : List Tk) (i p : Nat) (b : Option Nat) : putD "beyond" (.int p) (flds ts i b) = flds ts i (some p) := by
  unfold flds putD
  rw [if_neg (by decide +kernel)]
  unfold putD
  rw [if_neg (by decide +kernel)]
  unfold putD
  rw [if_pos rfl]
  rfl
/-- the reader at r stands ahead of token i -/
def RD (C : Addr) (μ : Mu) (r : Addr) (ts : List Tk) (i : Nat) (b : Option Nat) : Prop := μ r = some (.ins C (flds ts i b))
def adv (C : Addr) (μ : Mu) (r : Addr) (ts : List Tk) (i : Nat) (b : Option Nat) : Mu := μ.put r (.ins C (flds ts i b))
theorem tk_at {ts : List Tk} {i : Nat} {tk : Tk} (h : ts[i]? = some tk) : atI (ts.map eTk) (i : Int) = some (eTk tk) := by
  have hk := (List.getElem?_eq_some_iff.mp h).1
  obtain ⟨x, h1, h2⟩ := atI_in (l := ts) (i := (i : Int)) (by omega) (by omega)
  rw [Int.toNat_natCast, h] at h2
  cases h2
  rw [atI_map, h1]
  rfl
theorem adv_adv {C r : Addr} {μ : Mu} {ts : List Tk} {i j : Nat} {b c : Option Nat} : adv C (adv C μ r ts i b) r ts j c = adv C μ r ts j c := Mu.put_put
theorem rd_adv {C r : Addr} {μ : Mu} {ts : List Tk} {i : Nat} {b : Option Nat} : RD C (adv C μ r ts i b) r ts i b := Mu.put_same
theorem del_adv {C r : Addr} {μ : Mu} {ts : List Tk} {i : Nat} {b : Option Nat} : (adv C μ r ts i b).del r = μ.del r := by
  funext x; unfold Mu.del adv Mu.put
  by_cases e : x = r
  · rw [if_pos e, if_pos e]
  · rw [if_neg e, if_neg e, if_neg e]
theorem sub_del {μ : Mu} {r : Addr} : Sub (μ.del r) μ := fun a o h => by
  unfold Mu.del at h
  split at h
  · cases h
  · exact h
theorem sub_refl {μ : Mu} : Sub μ μ := fun _ _ h => h
/-! ### what the reading does, as a function -/
inductive Rs (α : Type) where
  | ok (v : α) (n : Nat) (b : Option Nat) | er (p : Nat) (m : Str)
abbrev PM (α : Type) := List Tk → Option Nat → Rs α
def PM.bind {α β : Type} (x : PM α) (k : α → PM β) : PM β := fun l b => match x l b with
  | .ok v n b1 => (match k v (l.drop n) b1 with
    | .ok w n2 b2 => .ok w (n + n2) b2
    | .er p m => .er p m)
  | .er p m => .er p m
def tS (t : Tk) : Str := ⟨t.t.toArray⟩
def errAt (tk : Tk) : Str := if tk.k = "end" then "unexpected end" else "unexpected token"
def mTake (f : Tk → Bool) : PM Str := fun l b => match l with
  | [] => .er 0 ⟨#[]⟩
  | tk :: _ => if f tk = true then .ok (tS tk) 1 b else .er tk.p (errAt tk)
def isWord (ks : List Str) (tk : Tk) : Bool := tk.k == ("word" : Str) && decide (tS tk ∈ ks)
def isKey (tk : Tk) : Bool := tk.k == ("word" : Str) && decide (tk.t.length ≤ 8)
def isNum (tk : Tk) : Bool := tk.k == ("number" : Str)
def isSep (tk : Tk) : Bool := tk.k == ("separator" : Str)
def isEnd (tk : Tk) : Bool := tk.k == ("end" : Str)
def numV : List Nat → Int
  | [] => 0
  | c :: l => if c = 45 then -(PySem.NumText.digitsVal l : Int) else PySem.NumText.digitsVal (c :: l)
def mNum (lo hi : Int) : PM Unit := fun l b => match l with
  | [] => .er 0 ⟨#[]⟩
  | tk :: _ => if isNum tk = true then .ok () 1 (if b = none ∧ ¬ (lo ≤ numV tk.t ∧ numV tk.t ≤ hi) then some tk.p else b) else .er tk.p (errAt tk)
def mKeys : PM Unit := fun l b => match l with
  | [] => .er 0 ⟨#[]⟩
  | tk :: r => if isKey tk = true then .ok () (1 + (r.takeWhile isKey).length) b else .er tk.p (errAt tk)
def NumT (t : List Nat) : Prop := ∃ (neg : Bool) (ds : List Nat), t = (if neg = true then [45] else []) ++ ds ∧ PySem.NumText.AllDigits ds ∧ ds ≠ [] ∧ (ds.dropWhile (· == 48)).length ≤ 8 ∧ ds.length ≤ 100
def okTk (t : Tk) : Prop := t.k ≠ "end" ∧ (t.k = "number" → NumT t.t)
/-- tokens as a text has them: the end stands behind all -/
def Well (l : List Tk) : Prop := ∃ (body : List Tk) (e : Tk), l = body ++ [e] ∧ e.k = "end" ∧ (∀ t ∈ body, okTk t) ∧ ∀ j, ((l.drop j).takeWhile isKey).length < 64
theorem Well.ne {l : List Tk} (h : Well l) : ∃ tk r, l = tk :: r := by
  obtain ⟨body, e, rfl, _⟩ := h
  cases body with
  | nil => exact ⟨e, [], rfl⟩
  | cons a b => exact ⟨a, b ++ [e], rfl⟩
theorem Well.tail {tk : Tk} {l : List Tk} (h : Well (tk :: l)) (hk : tk.k ≠ "end") : Well l := by
  obtain ⟨body, e, he, h1, h2, h3⟩ := h
  cases body with
  | nil => injection he with e1 e2; subst e1; exact absurd h1 hk
  | cons a b =>
    injection he with e1 e2
    subst e1
    exact ⟨b, e, e2, h1, fun t ht => h2 t (by simp [ht]), fun j => by have := h3 (j + 1); rwa [List.drop_succ_cons] at this⟩
theorem Well.head {tk : Tk} {l : List Tk} (h : Well (tk :: l)) (hk : tk.k ≠ "end") : okTk tk := by
  obtain ⟨body, e, he, h1, h2, h3⟩ := h
  cases body with
  | nil => injection he with e1 e2; subst e1; exact absurd h1 hk
  | cons a b => injection he with e1 e2; subst e1; exact h2 tk (by simp)
theorem Well.at {ts : List Tk} {i : Nat} (h : Well (ts.drop i)) : ∃ tk, ts[i]? = some tk ∧ ts.drop i = tk :: ts.drop (i + 1) := by
  obtain ⟨tk, r, e⟩ := h.ne
  have h1 : (ts.drop i)[0]? = some tk := by rw [e]; rfl
  rw [List.getElem?_drop] at h1
  refine ⟨tk, h1, ?_⟩
  have h2 := (List.getElem?_eq_some_iff.mp h1)
  obtain ⟨h3, h4⟩ := h2
  rw [List.drop_eq_getElem_cons (by omega)]
  congr 1
theorem w_end : (("word" : Str) = "end") = False := eq_false (by decide +kernel)
theorem n_end : (("number" : Str) = "end") = False := eq_false (by decide +kernel)
theorem s_end : (("separator" : Str) = "end") = False := eq_false (by decide +kernel)
/-- behind what was read the end still stands -/
def Safe {α : Type} (x : PM α) : Prop := ∀ l b v n b1, Well l → x l b = .ok v n b1 → Well (l.drop n)
theorem safe_take {f : Tk → Bool} (hf : ∀ t, f t = true → t.k ≠ "end") : Safe (mTake f) := by
  intro l b v n b1 hw hx
  obtain ⟨tk, r, rfl⟩ := hw.ne
  unfold mTake at hx
  simp only at hx
  split at hx
  · rename_i h
    cases hx
    exact hw.tail (hf tk h)
  · cases hx
theorem word_ne (ks : List Str) (t : Tk) (h : isWord ks t = true) : t.k ≠ "end" := by
  unfold isWord at h
  rw [Bool.and_eq_true] at h
  rw [eq_of_beq h.1, ne_eq, w_end]; exact id
theorem key_ne (t : Tk) (h : isKey t = true) : t.k ≠ "end" := by
  unfold isKey at h
  rw [Bool.and_eq_true] at h
  rw [eq_of_beq h.1, ne_eq, w_end]; exact id
theorem num_ne (t : Tk) (h : isNum t = true) : t.k ≠ "end" := by
  rw [eq_of_beq h, ne_eq, n_end]; exact id
theorem sep_ne (t : Tk) (h : isSep t = true) : t.k ≠ "end" := by
  rw [eq_of_beq h, ne_eq, s_end]; exact id
theorem safe_num {lo hi : Int} : Safe (mNum lo hi) := by
  intro l b v n b1 hw hx
  obtain ⟨tk, r, rfl⟩ := hw.ne
  unfold mNum at hx
  simp only at hx
  split at hx
  · rename_i h
    cases hx
    exact hw.tail (num_ne tk h)
  · cases hx
theorem well_keys : ∀ {r : List Tk}, Well r → Well (r.drop (r.takeWhile isKey).length)
  | [], h => by obtain ⟨tk, r, e⟩ := h.ne; cases e
  | tk :: r, h => by
    rw [List.takeWhile_cons]
    split
    · rename_i hk
      rw [List.length_cons, List.drop_succ_cons]
      exact well_keys (h.tail (key_ne tk hk))
    · exact h
theorem safe_keys : Safe mKeys := by
  intro l b v n b1 hw hx
  obtain ⟨tk, r, rfl⟩ := hw.ne
  unfold mKeys at hx
  simp only at hx
  split at hx
  · rename_i h
    cases hx
    rw [Nat.add_comm, List.drop_succ_cons]
    exact well_keys (hw.tail (key_ne tk h))
  · cases hx
theorem safe_bind {α β : Type} {x : PM α} {k : α → PM β} (hx : Safe x) (hk : ∀ v, Safe (k v)) : Safe (x.bind k) := by
  intro l b v n b1 hw h
  unfold PM.bind at h
  split at h
  · rename_i v1 n1 b2 e1
    split at h
    · rename_i v2 n2 b3 e2
      cases h
      have h1 := hx l b v1 n1 b2 hw e1
      have h2 := hk v1 _ _ _ _ _ h1 e2
      rw [List.drop_drop] at h2
      exact h2
    · cases h
  · cases h
/-- what is wanted behind a reading -/
def Out {α : Type} (C r : Addr) (ts : List Tk) (i : Nat) (x : Rs α) (μ : Mu) (Qa : α → Mu → Prop) (Ed : XD) : Prop := match x with
  | .ok v n b => Qa v (adv C μ r ts (i + n) b)
  | .er p m => Ed p m (μ.del r)
theorem out_bind {α β : Type} {C r : Addr} {ts : List Tk} {i : Nat} {b : Option Nat} {x : PM α} {k : α → PM β} {μ : Mu} {Qa : β → Mu → Prop} {Ed : XD} (h : Out C r ts i (PM.bind x k (ts.drop i) b) μ Qa Ed) :
    Out C r ts i (x (ts.drop i) b) μ (fun v μ' => ∃ n b1, x (ts.drop i) b = .ok v n b1 ∧ μ' = adv C μ r ts (i + n) b1 ∧ Out C r ts (i + n) (k v (ts.drop (i + n)) b1) μ' Qa Ed) Ed := by
  unfold PM.bind at h
  cases hx : x (ts.drop i) b with
  | ok v n b1 =>
    rw [hx] at h
    simp only [List.drop_drop] at h
    refine ⟨n, b1, rfl, rfl, ?_⟩
    cases hk : k v (ts.drop (i + n)) b1 with
    | ok w n2 b2 =>
      rw [hk] at h
      show Qa w (adv C (adv C μ r ts (i + n) b1) r ts (i + n + n2) b2)
      rw [adv_adv]
      have h' : Qa w (adv C μ r ts (i + (n + n2)) b2) := h
      rw [show i + n + n2 = i + (n + n2) by omega]
      exact h'
    | er p m =>
      rw [hk] at h
      show Ed p m ((adv C μ r ts (i + n) b1).del r)
      rw [del_adv]
      exact h
  | er p m =>
    rw [hx] at h
    exact h
theorem Out.mono {α : Type} {C r : Addr} {ts : List Tk} {i : Nat} {x : Rs α} {μ : Mu} {Qa Qb : α → Mu → Prop} {Ed Ed' : XD} (h : Out C r ts i x μ Qa Ed) (hq : ∀ v μ', Qa v μ' → Qb v μ') (he : ∀ p m, Ed p m (μ.del r) → Ed' p m (μ.del r)) : Out C r ts i x μ Qb Ed' := by
  cases x with
  | ok v n b => exact hq _ _ h
  | er p m => exact he _ _ h
def C_Reader___init__ (C : Addr) : CT := fun ds μ Q => match ds with
  | [.ptr r, t] => ∃ ts : List Tk, t = .lst (ts.map eTk) ∧ μ r = some (.ins C []) ∧ Q .non (adv C μ r ts 0 none)
  | _ => False
def C_Reader_sees (C : Addr) : CT := fun ds μ Q => match ds with
  | [.ptr r, .str k] => ∃ ts i b tk, RD C μ r ts i b ∧ ts[i]? = some tk ∧ Q (.bl (tk.k == k)) μ
  | _ => False
def C_Reader_sees_key (C : Addr) : CT := fun ds μ Q => match ds with
  | [.ptr r] => ∃ ts i b tk, RD C μ r ts i b ∧ ts[i]? = some tk ∧ Q (.bl (isKey tk)) μ
  | _ => False
def C_Reader_sees_word (C : Addr) : CT := fun ds μ Q => match ds with
  | [.ptr r, c] => ∃ ts i b tk, ∃ ks : List Str, RD C μ r ts i b ∧ ts[i]? = some tk ∧ c = .tup (ks.map .str) ∧ Q (.bl (isWord ks tk)) μ
  | _ => False
def C_Reader_take (C : Addr) : CTX := fun ds μ Q Ed => match ds with
  | [.ptr r, .bl f] => ∃ ts i b tk, RD C μ r ts i b ∧ ts[i]? = some tk ∧ (f = true → Q (.str (tS tk)) (adv C μ r ts (i + 1) b)) ∧ (f = false → Ed tk.p (errAt tk) (μ.del r))
  | _ => False
def C_Reader_take_word (C : Addr) : CTX := fun ds μ Q Ed => match ds with
  | [.ptr r, c] => ∃ ts i b, ∃ ks : List Str, RD C μ r ts i b ∧ Well (ts.drop i) ∧ c = .tup (ks.map .str) ∧ Out C r ts i (mTake (isWord ks) (ts.drop i) b) μ (fun w μ' => Q (.str w) μ') Ed
  | _ => False
def C_Reader_take_key (C : Addr) : CTX := fun ds μ Q Ed => match ds with
  | [.ptr r] => ∃ ts i b, RD C μ r ts i b ∧ Well (ts.drop i) ∧ Out C r ts i (mTake isKey (ts.drop i) b) μ (fun w μ' => Q (.str w) μ') Ed
  | _ => False
def C_Reader_take_keys (C : Addr) : CTX := fun ds μ Q Ed => match ds with
  | [.ptr r] => ∃ ts i b, RD C μ r ts i b ∧ Well (ts.drop i) ∧ Out C r ts i (mKeys (ts.drop i) b) μ (fun _ μ' => ∀ d, Q d μ') Ed
  | _ => False
def C_number_of : CT := fun ds μ Q => match ds with
  | [.str t] => NumT t.cps.toList ∧ Q (.int (numV t.cps.toList)) μ
  | _ => False
def C_Reader_take_number (C : Addr) : CTX := fun ds μ Q Ed => match ds with
  | [.ptr r, .int lo, .int hi] => ∃ ts i b, RD C μ r ts i b ∧ Well (ts.drop i) ∧ Out C r ts i (mNum lo hi (ts.drop i) b) μ (fun _ μ' => ∀ n : Int, Q (.int n) μ') Ed
  | _ => False
end K42
end

-- part E3
section
local macro_rules | `(tactic| walk_at "dl") => `(tactic| simp only [DL.sRet, DL.dJoined, DL.dJs, DL.dFmt, DL.dFld, DL.dMeth, DL.dMake, DL.sFld, DL.sFldI, DL.sSeq, DL.sSet, DL.sIf, DL.sNext, DL.sNever, DL.sDrop, DL.sAsg, DL.sRetN, DL.dVar, DL.dC, DL.dOp, DL.dTest, DL.dAnd, DL.dOr, DL.dNot, DL.dTru, DL.dAndV, DL.dOrV, DL.dNotV, DL.dIf, DL.aNil, DL.aCons, DL.dTup, DL.dLst, DL.dLstM, DL.dCall, DL.dFrz, DL.dB, DL.dNeg, DL.dSl, DL.oNone, DL.oSome, DL.dChn, DL.gN, DL.gT, DL.setAll, DL.fOf, DL.aNilX, DL.aConsX, DL.dTupX, DL.dLstMX, DL.dCallX, DL.dCallN, DL.dMethX, DL.xOf, DL.xNext, DL.xSeq, DL.xDrop, DL.xRet, DL.xIf, DL.xSet, DL.xFrz, DL.xApp, DL.xRaise, DL.dWix, DL.dWget, DL.optS,
  DL.ix_l, DL.ix_t, DL.ix_s, DL.ix_p, DL.add_i, DL.add_s, DL.add_l, DL.add_t, DL.mul_i, DL.mul_b, DL.sub_i, DL.fdiv_i, DL.mod_i, DL.pow_i, DL.shl_i, DL.shr_i, DL.and_i, DL.lt_i, DL.le_i, DL.gt_i, DL.ge_i, DL.le_s, DL.in_t, DL.in_l, DL.in_s, DL.len_l, DL.len_t, DL.len_s, DL.len_p, DL.list_l, DL.list_t, DL.list_s, DL.list_p, DL.tuple_l, DL.tuple_t, DL.int_i, DL.int_b, DL.abs_i, DL.max_i, DL.min_i, DL.all_l, DL.any_l, DL.isi_1, DL.isi_n, DL.sl_l, DL.sl_t, DL.sl_s, DL.neg_i, DL.isN_i, DL.notN_i, DL.eq_x, DL.ne_x,
  DL.w_wrote_many, DL.w_wrote_many_b, DL.w_wrote_among, DL.w_wrote_among_b, DL.w_wrote_did, DL.w_wrote_did_b, DL.w_wrote_times, DL.w_wrote_times_b, DL.w_wrote_value, DL.w_wrote_value_b, DL.w_wrote_head, DL.w_wrote_head_b, DL.w_many_wrote, DL.w_many_wrote_b, DL.w_many_among, DL.w_many_among_b, DL.w_many_did, DL.w_many_did_b, DL.w_many_times, DL.w_many_times_b, DL.w_many_value, DL.w_many_value_b, DL.w_many_head, DL.w_many_head_b, DL.w_among_wrote, DL.w_among_wrote_b, DL.w_among_many, DL.w_among_many_b, DL.w_among_did, DL.w_among_did_b, DL.w_among_times, DL.w_among_times_b, DL.w_among_value, DL.w_among_value_b, DL.w_among_head, DL.w_among_head_b, DL.w_did_wrote, DL.w_did_wrote_b, DL.w_did_many, DL.w_did_many_b, DL.w_did_among, DL.w_did_among_b, DL.w_did_times, DL.w_did_times_b, DL.w_did_value, DL.w_did_value_b, DL.w_did_head, DL.w_did_head_b, DL.w_times_wrote, DL.w_times_wrote_b, DL.w_times_many, DL.w_times_many_b, DL.w_times_among, DL.w_times_among_b, DL.w_times_did, DL.w_times_did_b, DL.w_times_value, DL.w_times_value_b, DL.w_times_head, DL.w_times_head_b, DL.w_value_wrote, DL.w_value_wrote_b, DL.w_value_many, DL.w_value_many_b, DL.w_value_among, DL.w_value_among_b, DL.w_value_did, DL.w_value_did_b, DL.w_value_times, DL.w_value_times_b, DL.w_value_head, DL.w_value_head_b, DL.w_head_wrote, DL.w_head_wrote_b, DL.w_head_many, DL.w_head_many_b, DL.w_head_among, DL.w_head_among_b, DL.w_head_did, DL.w_head_did_b, DL.w_head_times, DL.w_head_times_b, DL.w_head_value, DL.w_head_value_b,
  DL.q_ss, DL.q_ii, DL.q_bb, DL.q_nn, DL.q_tt, DL.q_ll, DL.q_si, DL.q_sn, DL.q_st, DL.q_sl, DL.q_is, DL.q_in, DL.q_it, DL.q_il, DL.q_ns, DL.q_ni, DL.q_nt, DL.q_nl, DL.q_ts, DL.q_ti, DL.q_tn, DL.q_tl, DL.q_ls, DL.q_li, DL.q_ln, DL.q_lt, DL.qs_nil, DL.qs_cons, DL.qs_nc, DL.qs_cn, DL.p_t16, DL.p_l16, DL.p_t15, DL.p_l15, DL.p_t14, DL.p_l14, DL.p_t13, DL.p_l13, DL.p_t12, DL.p_l12, DL.p_s, DL.p_i, DL.p_b, DL.p_n, DL.ps_nil, DL.ps_cons, DL.t_b, DL.t_i, DL.t_l, DL.t_t, DL.t_n, DL.n_n, DL.n_i, DL.n_s, DL.n_t, DL.n_l, DL.n_b, DL.f_s, DL.f_i,
  Bool.false_and, Bool.and_false, DL.z0, DL.z1, DL.z2, DL.z3, DL.z4, DL.z5, DL.z6, DL.z12,
  DL.startD, DL.sFrz, DL.sApp, DL.yesD, DL.lcTurn, DL.wipeE, DL.at0, DL.at1, DL.at2, DL.at3, DL.at4, List.map_cons, List.map_nil, List.replicate_succ, List.replicate_zero, List.length_cons, List.length_nil, List.cons_append, List.nil_append, List.set_cons_zero, List.set_cons_succ, List.getElem?_cons_zero, List.getElem?_cons_succ, Option.some.injEq, exists_eq_left, exists_eq_left', exists_eq', exists_eq, true_and, and_true, decide_eq_true_eq, if_true, if_false, Bool.false_eq_true, reduceIte, Nat.reduceAdd, Nat.reduceSub, DL.D.bl.injEq, DL.D.int.injEq, DL.D.str.injEq, DL.D.tup.injEq, DL.D.lst.injEq, DL.D.ptr.injEq, Bool.not_true, Bool.not_false, beq_self_eq_true, List.all_cons, List.all_nil, List.any_cons, List.any_nil, Bool.and_true, Bool.true_and, Bool.or_false, Bool.false_or, Bool.or_true, Bool.true_or, Bool.false_xor, Bool.true_xor, beq_iff_eq, Bool.not_eq_true, Int.reduceEq, Int.reduceBEq, and_self])

namespace K42
open PySem L2 DL PySem.NumText
theorem out_take {C r : Addr} {ts : List Tk} {i : Nat} {b : Option Nat} {μ : Mu} {f : Tk → Bool} {Qa : Str → Mu → Prop} {Ed : XD} {tk : Tk} (e : ts.drop i = tk :: ts.drop (i + 1)) (h : Out C r ts i (mTake f (ts.drop i) b) μ Qa Ed) :
    (f tk = true → Qa (tS tk) (adv C μ r ts (i + 1) b)) ∧ (f tk = false → Ed tk.p (errAt tk) (μ.del r)) := by
  rw [e] at h
  unfold mTake at h
  simp only at h
  refine ⟨fun hf => ?_, fun hf => ?_⟩
  · rw [if_pos hf] at h; exact h
  · rw [if_neg (by rw [hf]; decide)] at h; exact h
theorem drop_tw {α : Type} (p : α → Bool) : ∀ l : List α, l.drop (l.takeWhile p).length = l.dropWhile p
  | [] => rfl
  | a :: l => by
    rw [List.takeWhile_cons, List.dropWhile_cons]
    by_cases h : p a = true
    · rw [if_pos h, if_pos h, List.length_cons, List.drop_succ_cons, drop_tw p l]
    · rw [if_neg h, if_neg h]; rfl
theorem strip_list (x y : Str) : (Txt.lstripChars x y).cps.toList = x.cps.toList.dropWhile y.cps.contains := by
  unfold Txt.lstripChars
  rw [PyProof.Rows.stripBy_eq]
  show (x.cps.extract (x.cps.toList.takeWhile y.cps.contains).length x.cps.size).toList = _
  rw [Array.toList_extract, ← drop_tw]
  have h := Array.length_toList (xs := x.cps)
  rw [List.extract_eq_take_drop, List.take_of_length_le (by rw [List.length_drop, h]; omega)]
theorem sok_list {l : List Nat} (h : ∀ c ∈ l, c < 128) (hl : l.length ≤ 10000) : SOk ⟨l.toArray⟩ := by
  refine ⟨sz_small (by show l.toArray.size ≤ 10000; rw [List.size_toArray]; exact hl), ?_⟩
  show l.toArray.all (· < 0x110000) = true
  rw [List.all_toArray, List.all_eq_true]
  intro c hc
  have := h c hc
  simp; omega
theorem dz (l : List Nat) : digitsVal (l.dropWhile (· == 48)) = digitsVal l := by
  induction l with
  | nil => rfl
  | cons c l ih =>
    rw [List.dropWhile_cons]
    by_cases h : (c == 48) = true
    · rw [if_pos h, ih]
      have : c = 48 := eq_of_beq h
      subst this
      exact digitsVal_zero.symm
    · rw [if_neg h]
theorem numV_of {t : List Nat} {neg : Bool} {ds : List Nat} (ht : t = (if neg = true then [45] else []) ++ ds) (hd : PySem.NumText.AllDigits ds) (hne : ds ≠ []) : numV t = if neg = true then -(digitsVal ds : Int) else digitsVal ds := by
  cases neg with
  | true =>
    rw [if_pos rfl] at ht ⊢
    rw [ht]
    show (if (45 : Nat) = 45 then -(digitsVal ds : Int) else (digitsVal (45 :: ds) : Int)) = _
    rw [if_pos rfl]
  | false =>
    rw [if_neg (by decide)] at ht ⊢
    cases ds with
    | nil => exact absurd rfl hne
    | cons c l =>
      rw [ht, List.nil_append]
      have := hd c (by simp)
      show (if c = 45 then -(digitsVal l : Int) else (digitsVal (c :: l) : Int)) = _
      rw [if_neg (by omega)]
theorem stepx_setX {i : Nat} {F : TFX D} {REST : TSX} {E : EndsX} {ρ : DL.Env} {μ : Mu} (S : D → Mu → Prop) (hF : ∀ R : D → Mu → Prop, (∀ d μ', S d μ' → R d μ') → F ρ μ R E.ex) (h : ∀ d μ', S d μ' → REST E (ρ.set i (some d)) μ') : xSeq (xSet i F) REST E ρ μ := hF _ h
theorem keys_split : ∀ {l : List Tk}, Well l → ∃ (ws : List Tk) (tk : Tk) (r : List Tk), l = ws ++ tk :: r ∧ ws = l.takeWhile isKey ∧ (∀ w ∈ ws, isKey w = true) ∧ isKey tk = false
  | [], h => by obtain ⟨tk, r, e⟩ := h.ne; cases e
  | tk :: r, h => by
    rw [List.takeWhile_cons]
    cases hk : isKey tk with
    | true =>
      obtain ⟨ws, t2, r2, e, e2, h1, h2⟩ := keys_split (h.tail (key_ne tk hk))
      refine ⟨tk :: ws, t2, r2, by rw [e]; rfl, by rw [if_pos rfl, e2], fun w hw => ?_, h2⟩
      rcases List.mem_cons.mp hw with e3 | hw
      · subst e3; exact hk
      · exact h1 w hw
    | false => exact ⟨[], tk, r, rfl, by rw [if_neg (by decide)], fun w hw => absurd hw List.not_mem_nil, hk⟩
theorem well_drop : ∀ {l : List Tk} {j : Nat}, Well l → j ≤ (l.takeWhile isKey).length → Well (l.drop j)
  | l, 0, h, _ => by simpa using h
  | [], j + 1, h, hj => by simp at hj
  | tk :: r, j + 1, h, hj => by
    rw [List.takeWhile_cons] at hj
    split at hj
    · rename_i hk
      rw [List.drop_succ_cons]
      exact well_drop (l := r) (j := j) (h.tail (key_ne tk hk)) (by rw [List.length_cons] at hj; omega)
    · simp at hj
section
variable {P : Program} {w : World} {K : PySem.W.Frag} {mg : Str → Option Value} {base : Heap}
theorem ok_Reader___init__ (T : Tx K mg) : FnOk P w K mg base CX0 1 T.a_Reader___init__ T.d_Reader___init__ ["self", "tokens"] (spD K (C_Reader___init__ T.C_Reader)) :=
  DL.Fun.okD (N := ["self", "tokens"]) T.F_Reader___init__ sc_Reader___init__ (fun cdv A outer s H E hr => 
      (dss_cons (ds_fld T.cl_Reader T.na_Reader_tokens (dv 0) (dv 1)) 
      (dss_cons (ds_fld T.cl_Reader T.na_Reader_passed (dv 0) de_int) 
      (dss_one (ds_fld T.cl_Reader T.na_Reader_beyond (dv 0) de_non)))))
    (by intro ds μ Q h; unfold C_Reader___init__ at h; split at h <;> first | rfl | exact h.elim) (by
  intro ds μ Q h
  unfold C_Reader___init__ at h
  split at h
  · rename_i ds' r t
    obtain ⟨ts, rfl, hr, hq⟩ := h
    (walk_at "dl")
    have e1 : putD "tokens" (D.lst (ts.map eTk)) [] = [(("tokens" : Str), D.lst (ts.map eTk))] := rfl
    have e2 : putD "passed" (D.int 0) [(("tokens" : Str), D.lst (ts.map eTk))] = [(("tokens" : Str), D.lst (ts.map eTk)), (("passed" : Str), D.int 0)] := by
      unfold putD
      rw [if_neg (by decide +kernel)]
      rfl
    have e3 : putD "beyond" D.non [(("tokens" : Str), D.lst (ts.map eTk)), (("passed" : Str), D.int 0)] = flds ts 0 none := by
      unfold putD
      rw [if_neg (by decide +kernel)]
      unfold putD
      rw [if_neg (by decide +kernel)]
      rfl
    refine ⟨r, _, rfl, hr, by decide, r, _, rfl, Mu.put_same, (by rw [e1]; show 1 < 1000; decide), r, _, rfl, Mu.put_same, (by rw [e1, e2]; show 2 < 1000; decide), ?_⟩
    rw [Mu.put_put, Mu.put_put, e1, e2, e3]
    exact hq
  · exact h.elim
)

theorem ok_Reader_sees (T : Tx K mg) : FnOk P w K mg base CX0 1 T.a_Reader_sees T.d_Reader_sees ["self", "kind"] (spD K (C_Reader_sees T.C_Reader)) :=
  DL.Fun.okD (N := ["self", "kind"]) T.F_Reader_sees sc_Reader_sees (fun cdv A outer s H E hr => 
      (dss_one (ds_ret (de_cmp (op_eqD hr.units) od_eq (de_ix ix_seq od_ix (de_ix ix_seq od_ix (de_fld T.cl_Reader T.na_Reader_tokens (dv 0)) (de_fld T.cl_Reader T.na_Reader_passed (dv 0)) (fun _ _ => rfl)) de_int (fun _ _ => rfl)) (dv 1) (nomark _)))))
    (by intro ds μ Q h; unfold C_Reader_sees at h; split at h <;> first | rfl | exact h.elim) (by
  intro ds μ Q h
  unfold C_Reader_sees at h
  split at h
  · rename_i ds' r k
    obtain ⟨ts, i, b, tk, hr, ht, hq⟩ := h
    (walk_at "dl")
    simp only [fld_at hr (l_tokens ts i b), fld_at hr (l_passed ts i b)]
    (walk_at "dl")
    rw [tk_at ht]
    refine ⟨_, rfl, ?_⟩
    unfold eTk
    (walk_at "dl")
    exact hq
  · exact h.elim
)

theorem ok_Reader_sees_key (T : Tx K mg) : FnOk P w K mg base CX0 2 T.a_Reader_sees_key T.d_Reader_sees_key ["self"] (spD K (C_Reader_sees_key T.C_Reader)) :=
  DL.Fun.okD (N := ["self"]) T.F_Reader_sees_key sc_Reader_sees_key (fun cdv A outer s H E hr => 
      (dss_one (ds_ret (de_and (de_meth T.cl_Reader T.mt_Reader_sees (ok_Reader_sees T) (hr.mono (by decide)) T.v_Reader_sees pass0 (dv 0) (da_cons (de_globS rfl T.g_WORD) da_nil)) (de_one (de_cmp op_leD od_le (de_B L2.call_len cd_len (by rfl) T.b_len (by decide +kernel) (da_cons (de_ix ix_seq od_ix (de_ix ix_seq od_ix (de_fld T.cl_Reader T.na_Reader_tokens (dv 0)) (de_fld T.cl_Reader T.na_Reader_passed (dv 0)) (fun _ _ => rfl)) de_int (fun _ _ => rfl)) da_nil)) (de_globI rfl T.g_LONGEST_KEY) (nomark _)))))))
    (by intro ds μ Q h; unfold C_Reader_sees_key at h; split at h <;> first | rfl | exact h.elim) (by
  intro ds μ Q h
  unfold C_Reader_sees_key at h
  split at h
  · rename_i ds' r
    obtain ⟨ts, i, b, tk, hr, ht, hq⟩ := h
    unfold isKey at hq
    (walk_at "dl")
    refine ⟨r, _, rfl, hr, l_no ts i b (by decide +kernel) (by decide +kernel) (by decide +kernel), ts, i, b, tk, hr, ht, _, rfl, ?_⟩
    cases h1 : tk.k == ("word" : Str) with
    | false => rw [h1] at hq; exact hq
    | true =>
      rw [h1] at hq
      (walk_at "dl")
      simp only [fld_at hr (l_tokens ts i b), fld_at hr (l_passed ts i b)]
      (walk_at "dl")
      rw [tk_at ht]
      refine ⟨_, rfl, ?_⟩
      unfold eTk
      (walk_at "dl")
      have e : ((⟨tk.t.toArray⟩ : Str).length : Int) = tk.t.length := by show ((tk.t.toArray.size : Nat) : Int) = _; rw [List.size_toArray]
      rw [e]
      have e2 : decide ((tk.t.length : Int) ≤ 8) = decide (tk.t.length ≤ 8) := by rw [decide_eq_decide]; omega
      rw [e2]
      exact hq
  · exact h.elim
)

theorem ok_Reader_sees_word (T : Tx K mg) : FnOk P w K mg base CX0 2 T.a_Reader_sees_word T.d_Reader_sees_word ["self", "choices"] (spD K (C_Reader_sees_word T.C_Reader)) :=
  DL.Fun.okD (N := ["self", "choices"]) T.F_Reader_sees_word sc_Reader_sees_word (fun cdv A outer s H E hr => 
      (dss_one (ds_ret (de_and (de_meth T.cl_Reader T.mt_Reader_sees (ok_Reader_sees T) (hr.mono (by decide)) T.v_Reader_sees pass0 (dv 0) (da_cons (de_globS rfl T.g_WORD) da_nil)) (de_one (de_cmp op_inD2 od_in (de_ix ix_seq od_ix (de_ix ix_seq od_ix (de_fld T.cl_Reader T.na_Reader_tokens (dv 0)) (de_fld T.cl_Reader T.na_Reader_passed (dv 0)) (fun _ _ => rfl)) de_int (fun _ _ => rfl)) (dv 1) (by rfl)))))))
    (by intro ds μ Q h; unfold C_Reader_sees_word at h; split at h <;> first | rfl | exact h.elim) (by
  intro ds μ Q h
  unfold C_Reader_sees_word at h
  split at h
  · rename_i ds' r c
    obtain ⟨ts, i, b, tk, ks, hr, ht, rfl, hq⟩ := h
    unfold isWord tS at hq
    (walk_at "dl")
    refine ⟨r, _, rfl, hr, l_no ts i b (by decide +kernel) (by decide +kernel) (by decide +kernel), ts, i, b, tk, hr, ht, _, rfl, ?_⟩
    cases h1 : tk.k == ("word" : Str) with
    | false => rw [h1] at hq; exact hq
    | true =>
      rw [h1] at hq
      (walk_at "dl")
      simp only [fld_at hr (l_tokens ts i b), fld_at hr (l_passed ts i b)]
      (walk_at "dl")
      rw [tk_at ht]
      refine ⟨_, rfl, ?_⟩
      unfold eTk
      (walk_at "dl")
      refine ⟨flat_strs ks, ?_⟩
      rw [any_str]
      exact hq
  · exact h.elim
)

theorem ok_Reader_take (T : Tx K mg) : FnOk P w K mg base (L2.CX P w) 3 T.a_Reader_take T.d_Reader_take ["self", "fits"] (spX T.C_TextError K (C_Reader_take T.C_Reader)) :=
  DL.Fun.okXf (N := ["self", "fits", "kind", "word", "place"]) T.F_Reader_take sc_Reader_take (fun cdv A outer s H E hr => 
      (ssx_cons (sx_of (ds_asg (de_ix ix_seq od_ix (de_fld T.cl_Reader T.na_Reader_tokens (dv 0)) (de_fld T.cl_Reader T.na_Reader_passed (dv 0)) (fun _ _ => rfl)) (dg_tup [2, 3, 4] rfl (pgs_cons (pg_name (i := 2) sc_Reader_take.nd rfl (by first | exact Or.inl rfl | exact Or.inr rfl)) (pgs_cons (pg_name (i := 3) sc_Reader_take.nd rfl (by first | exact Or.inl rfl | exact Or.inr rfl)) (pgs_cons (pg_name (i := 4) sc_Reader_take.nd rfl (by first | exact Or.inl rfl | exact Or.inr rfl)) pgs_nil)))))) 
      (ssx_cons (sx_if (dw_pt (dw_and (dt_cmp (op_eqD hr.units) od_eq (dv 2) (de_globS rfl T.g_END) (nomark _)) (dw_and1 (dt_not (dt_tru (dv 1)))))) 
      (ssx_one (sx_raise T.etx (ok_ini T) T.vI (hr.mono (by decide)) rfl (takes_of rfl rfl rfl rfl) (da_cons (dv 4) (da_cons (de_str) da_nil)))) ssx_nil) 
      (ssx_cons (sx_if (dt_not (dt_tru (dv 1))) 
      (ssx_one (sx_raise T.etx (ok_ini T) T.vI (hr.mono (by decide)) rfl (takes_of rfl rfl rfl rfl) (da_cons (dv 4) (da_cons (de_str) da_nil)))) ssx_nil) 
      (ssx_cons (sx_of (ds_fldI T.cl_Reader T.na_Reader_passed (dv 0) de_int)) 
      (ssx_one (sx_of (ds_ret (dv 3)))))))))
    (by intro ds μ Q Ed h; unfold C_Reader_take at h; split at h <;> first | rfl | exact h.elim) (by
  intro ds μ Q Ed h
  unfold C_Reader_take at h
  split at h
  · rename_i ds' r f
    obtain ⟨ts, i, b, tk, hr, ht, h1, h2⟩ := h
    (walk_at "dl")
    simp only [fld_at hr (l_tokens ts i b), fld_at hr (l_passed ts i b)]
    (walk_at "dl")
    rw [tk_at ht]
    refine ⟨_, rfl, ?_⟩
    unfold eTk
    (walk_at "dl")
    have fin : f = true → ∃ a fs i_1, r = a ∧ μ a = some (MO.ins T.C_Reader fs) ∧ List.lookup (Str.ofString "passed") fs = some (D.int i_1) ∧ ∃ j fs', 1 = j ∧ μ a = some (MO.ins T.C_Reader fs') ∧ fs'.length < 1000 ∧ ∃ μ2, DL.Sub μ2 (μ.put a (MO.ins T.C_Reader (putD (Str.ofString "passed") (D.int (i_1 + j)) fs'))) ∧ Q (D.str { cps := tk.t.toArray }) μ2 := fun hf => by
      refine ⟨r, _, i, rfl, hr, l_passed ts i b, 1, _, rfl, hr, by show 3 < 1000; decide, _, sub_refl, ?_⟩
      have e2 : putD (Str.ofString "passed") (D.int ((i : Int) + 1)) (flds ts i b) = flds ts (i + 1) b := put_passed ts i b
      rw [e2]
      exact h1 hf
    cases f with
    | true =>
      simp only [Bool.not_true, Bool.false_eq_true, if_false]
      split <;> exact fin rfl
    | false =>
      simp only [Bool.not_false, if_true]
      have h3 := h2 rfl
      unfold errAt at h3
      split
      · rename_i he
        rw [if_pos he] at h3
        exact ⟨_, _, rfl, _, sub_del, h3⟩
      · rename_i he
        rw [if_neg he] at h3
        exact ⟨_, _, rfl, _, sub_del, h3⟩
  · exact h.elim
)

theorem ok_Reader_take_word (T : Tx K mg) : FnOk P w K mg base (L2.CX P w) 4 T.a_Reader_take_word T.d_Reader_take_word ["self", "choices"] (spX T.C_TextError K (C_Reader_take_word T.C_Reader)) :=
  DL.Fun.okXf (N := ["self", "choices"]) T.F_Reader_take_word sc_Reader_take_word (fun cdv A outer s H E hr => 
      (ssx_one (sx_ret (xe_meth T.cl_Reader T.mt_Reader_take (ok_Reader_take T) (hr.mono (by decide)) T.v_Reader_take (passes_call (takes_of rfl rfl rfl rfl) fun _ _ _ _ h => h) (dv 0) (xa_cons (xe_of (de_meth T.cl_Reader T.mt_Reader_sees_word (ok_Reader_sees_word T) (hr.mono (by decide)) T.v_Reader_sees_word pass0 (dv 0) (da_cons (dv 1) da_nil))) xa_nil)))))
    (by intro ds μ Q Ed h; unfold C_Reader_take_word at h; split at h <;> first | rfl | exact h.elim) (by
  intro ds μ Q Ed h
  unfold C_Reader_take_word at h
  split at h
  · rename_i ds' r c
    obtain ⟨ts, i, b, ks, hr, hw, rfl, ho⟩ := h
    obtain ⟨tk, ht, e⟩ := hw.at
    obtain ⟨h1, h2⟩ := out_take e ho
    (walk_at "dl")
    refine ⟨r, _, rfl, hr, l_no ts i b (by decide +kernel) (by decide +kernel) (by decide +kernel), r, _, rfl, hr, l_no ts i b (by decide +kernel) (by decide +kernel) (by decide +kernel), ts, i, b, tk, ks, hr, ht, rfl, ?_⟩
    exact ⟨ts, i, b, tk, hr, ht, fun hf => ⟨_, sub_refl, h1 hf⟩, fun hf => ⟨_, sub_refl, h2 hf⟩⟩
  · exact h.elim
)

theorem ok_Reader_take_key (T : Tx K mg) : FnOk P w K mg base (L2.CX P w) 4 T.a_Reader_take_key T.d_Reader_take_key ["self"] (spX T.C_TextError K (C_Reader_take_key T.C_Reader)) :=
  DL.Fun.okXf (N := ["self"]) T.F_Reader_take_key sc_Reader_take_key (fun cdv A outer s H E hr => 
      (ssx_one (sx_ret (xe_meth T.cl_Reader T.mt_Reader_take (ok_Reader_take T) (hr.mono (by decide)) T.v_Reader_take (passes_call (takes_of rfl rfl rfl rfl) fun _ _ _ _ h => h) (dv 0) (xa_cons (xe_of (de_meth0 T.cl_Reader T.mt_Reader_sees_key (ok_Reader_sees_key T) (hr.mono (by decide)) T.v_Reader_sees_key pass0 (dv 0))) xa_nil)))))
    (by intro ds μ Q Ed h; unfold C_Reader_take_key at h; split at h <;> first | rfl | exact h.elim) (by
  intro ds μ Q Ed h
  unfold C_Reader_take_key at h
  split at h
  · rename_i ds' r
    obtain ⟨ts, i, b, hr, hw, ho⟩ := h
    obtain ⟨tk, ht, e⟩ := hw.at
    obtain ⟨h1, h2⟩ := out_take e ho
    (walk_at "dl")
    refine ⟨r, _, rfl, hr, l_no ts i b (by decide +kernel) (by decide +kernel) (by decide +kernel), r, _, rfl, hr, l_no ts i b (by decide +kernel) (by decide +kernel) (by decide +kernel), ts, i, b, tk, hr, ht, ?_⟩
    exact ⟨ts, i, b, tk, hr, ht, fun hf => ⟨_, sub_refl, h1 hf⟩, fun hf => ⟨_, sub_refl, h2 hf⟩⟩
  · exact h.elim
)

theorem ok_Reader_take_keys (T : Tx K mg) : FnOk P w K mg base (L2.CX P w) 5 T.a_Reader_take_keys T.d_Reader_take_keys ["self"] (spX T.C_TextError K (C_Reader_take_keys T.C_Reader)) :=
  DL.Fun.okXf (N := ["self", "keys"]) T.F_Reader_take_keys sc_Reader_take_keys (fun cdv A outer s H E hr => 
      (ssx_cons (sx_set 1 sc_Reader_take_keys.nd (xe_lstM (xa_cons (xe_meth0 T.cl_Reader T.mt_Reader_take_key (ok_Reader_take_key T) (hr.mono (by decide)) T.v_Reader_take_key (passes_call (takes_of rfl rfl rfl rfl) fun _ _ _ _ h => h) (dv 0)) xa_nil))) 
      (ssx_cons (sx_while (passes_of rfl) (dt_tru (de_meth0 T.cl_Reader T.mt_Reader_sees_key (ok_Reader_sees_key T) (hr.mono (by decide)) T.v_Reader_sees_key pass0 (dv 0))) 
      (ssx_one (sx_app (dv 1) (xe_meth0 T.cl_Reader T.mt_Reader_take_key (ok_Reader_take_key T) (hr.mono (by decide)) T.v_Reader_take_key (passes_call (takes_of rfl rfl rfl rfl) fun _ _ _ _ h => h) (dv 0))))) 
      (ssx_frz 1 (ssx_one (sx_of (ds_ret (de_T call_tuple_of cd_tuple (by rfl) T.b_tuple (by decide +kernel) (da_cons (de_sortedSet T.b_sorted T.b_set (dv 1)) da_nil)))))))))
    (by intro ds μ Q Ed h; unfold C_Reader_take_keys at h; split at h <;> first | rfl | exact h.elim) (by
  intro ds μ Q Ed h
  unfold C_Reader_take_keys at h
  split at h
  · rename_i ds' r
    obtain ⟨ts, i, b, hr, hw, ho⟩ := h
    obtain ⟨tk, ht, e⟩ := hw.at
    have hlen : ((ts.drop i).takeWhile isKey).length < 64 := by
      obtain ⟨_, _, _, _, _, h3⟩ := hw
      simpa using h3 0
    rw [e] at ho hlen
    unfold mKeys at ho
    simp only at ho
    cases hf : isKey tk with
    | false =>
      rw [if_neg (by rw [hf]; decide)] at ho
      have ho : Ed tk.p (errAt tk) (μ.del r) := ho
      (walk_at "dl")
      refine ⟨r, _, rfl, hr, l_no ts i b (by decide +kernel) (by decide +kernel) (by decide +kernel), ts, i, b, hr, by rw [e]; exact e ▸ hw, ?_⟩
      rw [e]
      unfold mTake Out
      simp only [hf, Bool.false_eq_true, if_false]
      exact ⟨_, sub_refl, ho⟩
    | true =>
      rw [if_pos hf] at ho
      rw [List.takeWhile_cons, if_pos hf, List.length_cons] at hlen
      have ho : ∀ d, Q d (adv T.C_Reader μ r ts (i + (1 + ((ts.drop (i + 1)).takeWhile isKey).length)) b) := ho
      have hw1 : Well (ts.drop (i + 1)) := (e ▸ hw : Well (tk :: ts.drop (i + 1))).tail (key_ne tk hf)
      obtain ⟨ws, tk2, r2, el, ews, hws, hk2⟩ := keys_split hw1
      rw [← ews] at hlen ho
      have wj : ∀ j, j ≤ ws.length → Well (ts.drop (i + 1 + j)) := fun j hj => by
        rw [← List.drop_drop]
        exact well_drop hw1 (by rw [← ews]; exact hj)
      have atw : ∀ (j : Nat) (hj : j < ws.length), ts[i + 1 + j]? = some ws[j] := fun j hj => by
        have h1 : (ts.drop (i + 1))[j]? = some ws[j] := by rw [el, List.getElem?_append_left hj, List.getElem?_eq_getElem hj]
        rw [List.getElem?_drop] at h1
        exact h1
      have atk : ts[i + 1 + ws.length]? = some tk2 := by
        have h1 : (ts.drop (i + 1))[ws.length]? = some tk2 := by rw [el, List.getElem?_append_right (Nat.le_refl _)]; simp
        rw [List.getElem?_drop] at h1
        exact h1
      refine stepx_setX (fun d μ2 => ∃ p s0, d = .ptr p ∧ p ≠ r ∧ μ p = none ∧ μ2 = (adv T.C_Reader μ r ts (i + 1) b).put p (.lst [.str s0])) (fun R hR => ?_) fun d μ2 hS => ?_
      · (walk_at "dl")
        refine ⟨r, _, rfl, hr, l_no ts i b (by decide +kernel) (by decide +kernel) (by decide +kernel), ts, i, b, hr, hw, ?_⟩
        rw [e]
        unfold mTake Out
        simp only [hf, if_true]
        intro p hp
        have hpr : p ≠ r := fun e => by subst e; unfold adv at hp; rw [Mu.put_same] at hp; cases hp
        refine hR _ _ ⟨p, _, rfl, hpr, ?_, rfl⟩
        unfold adv at hp
        rw [Mu.put_ne hpr] at hp
        exact hp
      obtain ⟨p, s0, rfl, hpr, hp, rfl⟩ := hS
      show xSeq _ _ _ [some (.ptr r), some (.ptr p)] _
      refine stepx (fun ρ' μ2 => ∃ ks : List Str, ρ' = [some (.ptr r), some (.ptr p)] ∧ ks.length < 64 ∧ μ2 = (adv T.C_Reader μ r ts (i + 1 + ws.length) b).put p (.lst (ks.map .str))) (fun E' hE' hEx hRt => ?_) fun ρ' μ2 hS => ?_
      · refine ⟨fun m ρ' μ2 => ∃ j, ∃ ks : List Str, j ≤ ws.length ∧ ks.length = j + 1 ∧ ρ' = [some (.ptr r), some (.ptr p)] ∧ μ2 = (adv T.C_Reader μ r ts (i + 1 + j) b).put p (.lst (ks.map .str)) ∧ m = ws.length - j, ⟨_, 0, [s0], Nat.zero_le _, rfl, rfl, rfl, rfl⟩, ?_⟩
        rintro m ρ' μ2 ⟨j, ks, hj, hks, rfl, rfl, rfl⟩
        (walk_at "dl")
        have hrr : RD T.C_Reader ((adv T.C_Reader μ r ts (i + 1 + j) b).put p (.lst (ks.map .str))) r ts (i + 1 + j) b := by
          unfold RD adv
          rw [Mu.put_ne (Ne.symm hpr), Mu.put_same]
        by_cases hlt : j < ws.length
        · have kj := hws _ (List.getElem_mem hlt)
          refine ⟨r, _, rfl, hrr, l_no ts _ b (by decide +kernel) (by decide +kernel) (by decide +kernel), ts, i + 1 + j, b, _, hrr, atw j hlt, ?_⟩
          rw [kj]
          refine ⟨true, rfl, ?_⟩
          rw [if_pos rfl]
          refine ⟨p, _, rfl, Mu.put_same, r, _, rfl, hrr, l_no ts _ b (by decide +kernel) (by decide +kernel) (by decide +kernel), ts, i + 1 + j, b, hrr, wj j (by omega), ?_⟩
          obtain ⟨tk3, ht3, e3⟩ := (wj j (by omega)).at
          have : tk3 = ws[j] := by rw [atw j hlt] at ht3; exact (Option.some.inj ht3).symm
          subst this
          rw [e3]
          unfold mTake Out
          simp only [kj, if_true]
          refine ⟨_, (by unfold adv; rw [Mu.put_ne hpr, Mu.put_same]), sz_small' (by rw [List.length_map]; omega), ws.length - (j + 1), by omega, j + 1, ks ++ [tS ws[j]], by omega, by rw [List.length_append, hks]; rfl, ?_, rfl⟩
          unfold adv
          rw [put_comm hpr, Mu.put_put, Mu.put_put, List.map_append]
          rfl
        · have hje : j = ws.length := by omega
          subst hje
          refine ⟨r, _, rfl, hrr, l_no ts _ b (by decide +kernel) (by decide +kernel) (by decide +kernel), ts, i + 1 + ws.length, b, _, hrr, atk, ?_⟩
          rw [hk2]
          (walk_at "dl")
          exact hE' _ _ ⟨ks, rfl, by omega, rfl⟩
      obtain ⟨ks, rfl, hks, rfl⟩ := hS
      (walk_at "dl")
      have hap : (adv T.C_Reader μ r ts (i + 1 + ws.length) b) p = none := by unfold adv; rw [Mu.put_ne hpr]; exact hp
      refine ⟨p, _, rfl, Mu.put_same, ?_⟩
      rw [Mu.put_del hap]
      unfold dSortS
      (walk_at "dl")
      refine ⟨_, _, rfl, strs_map _, hks, fun ys hs hm => ⟨_, sub_refl, ?_⟩⟩
      rw [show i + 1 + ws.length = i + (1 + ws.length) by omega]
      exact ho _
  · exact h.elim
)

theorem ok_number_of (T : Tx K mg) : FnOk P w K mg base CX0 1 T.a_number_of T.d_number_of ["word"] (spD K C_number_of) :=
  DL.Fun.okD (N := ["word", "digits", "size"]) T.F_number_of sc_number_of (fun cdv A outer s H E hr => 
      (dss_cons (ds_set 1 sc_number_of.nd (de_sl (de_lstrip (dv 0) (de_str)) do_none (do_some de_int))) 
      (dss_cons (ds_set 2 sc_number_of.nd (de_T call_intS cd_intS (by rfl) T.b_int (by decide +kernel) (da_cons (de_op op_addD od_add (de_str) (dv 1)) da_nil))) 
      (dss_one (ds_ret (de_if (dt_cmp (op_eqD hr.units) od_eq (de_ix ix_seq od_ix (dv 0) de_int (fun _ _ => rfl)) (de_str) (nomark _)) (de_neg (dv 2)) (dv 2)))))))
    (by intro ds μ Q h; unfold C_number_of at h; split at h <;> first | rfl | exact h.elim) (by
  intro ds μ Q h
  unfold C_number_of at h
  split at h
  · rename_i ds' t
    obtain ⟨⟨neg, ds, ht, hd, hne, h8, hl⟩, hq⟩ := h
    have hn := numV_of ht hd hne
    generalize numV t.cps.toList = n at hn hq
    (walk_at "dl")
    unfold dLstrip
    (walk_at "dl")
    have hds : ∀ c ∈ ds, ("-0" : Str).cps.contains c = (c == 48) := fun c hc => by
      have := hd c hc
      rw [show ("-0" : Str).cps = #[45, 48] from rfl]
      by_cases e : c = 48
      · subst e; simp
      · have : ¬ c = 45 := by omega
        simp [e, this]
    have dwc : ∀ l : List Nat, (∀ c ∈ l, c ∈ ds) → l.dropWhile ("-0" : Str).cps.contains = l.dropWhile (· == 48) := by
      intro l
      induction l with
      | nil => intro _; rfl
      | cons c l ih =>
        intro h
        rw [List.dropWhile_cons, List.dropWhile_cons, hds c (h c (by simp)), ih fun d hd' => h d (by simp [hd'])]
    have es : (Txt.lstripChars t ("-0" : Str)).cps.toList = ds.dropWhile (· == 48) := by
      rw [strip_list, ht]
      cases neg with
      | false => exact dwc ds fun _ h => h
      | true =>
        rw [if_pos rfl, List.singleton_append, List.dropWhile_cons, if_pos (by decide +kernel)]
        exact dwc ds fun _ h => h
    have ad : AllDigits (ds.dropWhile (· == 48)) := fun c hc => hd c ((List.dropWhile_suffix _).subset hc)
    have et : Txt.lstripChars t ("-0" : Str) = ⟨(ds.dropWhile (· == 48)).toArray⟩ := by
      have h : (Txt.lstripChars t ("-0" : Str)).cps = (ds.dropWhile (· == 48)).toArray := by
        apply Array.toList_inj.mp; rw [es]
      rw [← h]
    have ec : cutS (⟨(ds.dropWhile (· == 48)).toArray⟩ : Str) none (some 8) = ⟨(ds.dropWhile (· == 48)).toArray⟩ := by
      have h := cut_signs (⟨(ds.dropWhile (· == 48)).toArray⟩ : Str) 0 8
      unfold cutS at h ⊢
      have h0 : HT.sIx (⟨(ds.dropWhile (· == 48)).toArray⟩ : Str).length 0 (some ((0 : Nat) : Int)) = HT.sIx (⟨(ds.dropWhile (· == 48)).toArray⟩ : Str).length 0 none := by rw [HT.sIx_nat, HT.sIx_none]; omega
      rw [h0] at h
      refine h.trans ?_
      show (⟨(((ds.dropWhile (· == 48)).toArray.toList.drop 0).take 8).toArray⟩ : Str) = _
      rw [List.drop_zero, List.take_of_length_le h8]
    rw [et, ec]
    refine ⟨sok_list (fun c hc => by have := ad c hc; omega) (by omega), ?_, ?_⟩
    · show 1 + (ds.dropWhile (· == 48)).toArray.size ≤ sizeLine
      rw [List.size_toArray]
      exact sz_small (by omega)
    have e0 : (("0" : Str) ++ (⟨(ds.dropWhile (· == 48)).toArray⟩ : Str)).cps.toList = 48 :: ds.dropWhile (· == 48) := by
      show ((#[48] : Array Nat) ++ (ds.dropWhile (· == 48)).toArray).toList = _
      simp
    have hl0 : (("0" : Str) ++ (⟨(ds.dropWhile (· == 48)).toArray⟩ : Str)).length ≤ 9 := by
      show (("0" : Str) ++ (⟨(ds.dropWhile (· == 48)).toArray⟩ : Str)).cps.size ≤ 9
      rw [← Array.length_toList, e0, List.length_cons]; omega
    refine ⟨(digitsVal ds : Int), ?_, by omega, ?_⟩
    · have h := PySem.intText_digits (x := ("0" : Str) ++ (⟨(ds.dropWhile (· == 48)).toArray⟩ : Str)) (by rw [e0]; intro c hc; rcases List.mem_cons.mp hc with e | hc; (subst e; decide); exact ad c hc) (by rw [e0]; simp) (by omega)
      rw [e0, digitsVal_zero, dz] at h
      exact h
    · cases neg with
      | true =>
        rw [if_pos rfl] at ht hn
        refine ⟨45, by rw [ht]; exact at0, ?_⟩
        rw [if_pos (by rfl)]
        rw [hn] at hq
        exact hq
      | false =>
        rw [if_neg (by decide)] at ht hn
        cases ds with
        | nil => exact absurd rfl hne
        | cons c l =>
          refine ⟨c, by rw [ht]; exact at0, ?_⟩
          have := hd c (by simp)
          rw [if_neg (by rw [dash]; omega)]
          rw [hn] at hq
          exact hq
  · exact h.elim
)

theorem ok_Reader_take_number (T : Tx K mg) : FnOk P w K mg base (L2.CX P w) 4 T.a_Reader_take_number T.d_Reader_take_number ["self", "least", "greatest"] (spX T.C_TextError K (C_Reader_take_number T.C_Reader)) :=
  DL.Fun.okXf (N := ["self", "least", "greatest", "place", "number"]) T.F_Reader_take_number sc_Reader_take_number (fun cdv A outer s H E hr => 
      (ssx_cons (sx_of (ds_set 3 sc_Reader_take_number.nd (de_ix ix_seq od_ix (de_ix ix_seq od_ix (de_fld T.cl_Reader T.na_Reader_tokens (dv 0)) (de_fld T.cl_Reader T.na_Reader_passed (dv 0)) (fun _ _ => rfl)) de_int (fun _ _ => rfl)))) 
      (ssx_cons (sx_set 4 sc_Reader_take_number.nd (xe_callN (ok_number_of T) (hr.mono (by decide)) (by rfl) T.m_number_of T.k_number_of T.v_number_of pass0 (xa_cons (xe_meth T.cl_Reader T.mt_Reader_take (ok_Reader_take T) (hr.mono (by decide)) T.v_Reader_take (passes_call (takes_of rfl rfl rfl rfl) fun _ _ _ _ h => h) (dv 0) (xa_cons (xe_of (de_meth T.cl_Reader T.mt_Reader_sees (ok_Reader_sees T) (hr.mono (by decide)) T.v_Reader_sees pass0 (dv 0) (da_cons (de_globS rfl T.g_NUMBER) da_nil))) xa_nil)) xa_nil))) 
      (ssx_cons (sx_of (ds_if (dw_pt (dw_and (dt_cmp op_isN od_isN (de_fld T.cl_Reader T.na_Reader_beyond (dv 0)) de_non (nomark _)) (dw_and1 (dt_not (dt_chain op_leD op_leD od_le od_le (dv 1) (dv 4) (dv 2)))))) 
      (dss_one (ds_fld T.cl_Reader T.na_Reader_beyond (dv 0) (dv 3))) dss_nil)) 
      (ssx_one (sx_of (ds_ret (dv 4))))))))
    (by intro ds μ Q Ed h; unfold C_Reader_take_number at h; split at h <;> first | rfl | exact h.elim) (by
  intro ds μ Q Ed h
  unfold C_Reader_take_number at h
  split at h
  · rename_i ds' r lo hi
    obtain ⟨ts, i, b, hr, hw, ho⟩ := h
    obtain ⟨tk, ht, e⟩ := hw.at
    rw [e] at ho
    unfold mNum at ho
    simp only at ho
    (walk_at "dl")
    simp only [fld_at hr (l_tokens ts i b), fld_at hr (l_passed ts i b)]
    (walk_at "dl")
    rw [tk_at ht]
    refine ⟨_, rfl, ?_⟩
    unfold eTk
    (walk_at "dl")
    refine ⟨r, _, rfl, hr, l_no ts i b (by decide +kernel) (by decide +kernel) (by decide +kernel), r, _, rfl, hr, l_no ts i b (by decide +kernel) (by decide +kernel) (by decide +kernel), ts, i, b, tk, hr, ht, ts, i, b, tk, hr, ht, fun hf => ?_, fun hf => ?_⟩
    · have hf : isNum tk = true := hf
      rw [if_pos hf] at ho
      have hn := ((e ▸ hw : Well (tk :: ts.drop (i + 1))).head (num_ne tk hf)).2 (eq_of_beq hf)
      have ec : (tS tk).cps.toList = tk.t := by unfold tS; rfl
      refine ⟨by rw [ec]; exact hn, ?_⟩
      rw [ec]
      have hr2 : adv T.C_Reader μ r ts (i + 1) b r = some (.ins T.C_Reader (flds ts (i + 1) b)) := Mu.put_same
      (walk_at "dl")
      simp only [fld_at hr2 (l_beyond ts (i + 1) b)]
      have ho : ∀ n : Int, Q (.int n) (adv T.C_Reader μ r ts (i + 1) (if b = none ∧ ¬ (lo ≤ numV tk.t ∧ numV tk.t ≤ hi) then some tk.p else b)) := ho
      cases b with
      | some q =>
        rw [if_neg (by simp)] at ho
        unfold bD
        (walk_at "dl")
        exact ⟨_, sub_refl, ho _⟩
      | none =>
        unfold bD
        (walk_at "dl")
        have hbad : (∃ a fs, r = a ∧ adv T.C_Reader μ r ts (i + 1) none a = some (MO.ins T.C_Reader fs) ∧ fs.length < 1000 ∧ ∃ μ2, DL.Sub μ2 ((adv T.C_Reader μ r ts (i + 1) none).put a (MO.ins T.C_Reader (putD (Str.ofString "beyond") (D.int ↑tk.p) fs))) ∧ Q (D.int (numV tk.t)) μ2) ↔ ∃ μ2, DL.Sub μ2 (adv T.C_Reader μ r ts (i + 1) (some tk.p)) ∧ Q (D.int (numV tk.t)) μ2 := by
          have ep : (adv T.C_Reader μ r ts (i + 1) none).put r (MO.ins T.C_Reader (putD (Str.ofString "beyond") (D.int ↑tk.p) (flds ts (i + 1) none))) = adv T.C_Reader μ r ts (i + 1) (some tk.p) := by
            have e9 : putD (Str.ofString "beyond") (D.int ↑tk.p) (flds ts (i + 1) none) = flds ts (i + 1) (some tk.p) := put_beyond ts (i + 1) tk.p none
            rw [e9]
            exact Mu.put_put
          constructor
          · rintro ⟨a, fs, rfl, h1, h2, h3⟩
            rw [hr2] at h1
            cases h1
            rw [ep] at h3
            exact h3
          · intro h3
            refine ⟨r, _, rfl, hr2, by show 3 < 1000; decide, ?_⟩
            rw [ep]
            exact h3
        rw [hbad]
        by_cases c1 : lo ≤ numV tk.t
        · rw [if_pos c1]
          by_cases c2 : numV tk.t ≤ hi
          · rw [if_neg (by simp [c2])]
            rw [if_neg (by simp [c1, c2])] at ho
            exact ⟨_, sub_refl, ho _⟩
          · rw [if_pos (by simp [c2])]
            rw [if_pos ⟨rfl, fun h => c2 h.2⟩] at ho
            exact ⟨_, sub_refl, ho _⟩
        · rw [if_neg c1]
          rw [if_pos ⟨rfl, fun h => c1 h.1⟩] at ho
          exact ⟨_, sub_refl, ho _⟩
    · have hf : isNum tk = false := hf
      rw [if_neg (by rw [hf]; decide)] at ho
      exact ⟨_, sub_refl, ho⟩
  · exact h.elim
)
end
end K42
end

-- part E4
section
local macro_rules | `(tactic| walk_at "dl") => `(tactic| simp only [DL.sRet, DL.dJoined, DL.dJs, DL.dFmt, DL.dFld, DL.dMeth, DL.dMake, DL.sFld, DL.sFldI, DL.sSeq, DL.sSet, DL.sIf, DL.sNext, DL.sNever, DL.sDrop, DL.sAsg, DL.sRetN, DL.dVar, DL.dC, DL.dOp, DL.dTest, DL.dAnd, DL.dOr, DL.dNot, DL.dTru, DL.dAndV, DL.dOrV, DL.dNotV, DL.dIf, DL.aNil, DL.aCons, DL.dTup, DL.dLst, DL.dLstM, DL.dCall, DL.dFrz, DL.dB, DL.dNeg, DL.dSl, DL.oNone, DL.oSome, DL.dChn, DL.gN, DL.gT, DL.setAll, DL.fOf, DL.aNilX, DL.aConsX, DL.dTupX, DL.dLstMX, DL.dCallX, DL.dCallN, DL.dMethX, DL.xOf, DL.xNext, DL.xSeq, DL.xDrop, DL.xRet, DL.xIf, DL.xSet, DL.xFrz, DL.xApp, DL.xRaise, DL.dWix, DL.dWget, DL.optS,
  DL.ix_l, DL.ix_t, DL.ix_s, DL.ix_p, DL.add_i, DL.add_s, DL.add_l, DL.add_t, DL.mul_i, DL.mul_b, DL.sub_i, DL.fdiv_i, DL.mod_i, DL.pow_i, DL.shl_i, DL.shr_i, DL.and_i, DL.lt_i, DL.le_i, DL.gt_i, DL.ge_i, DL.le_s, DL.in_t, DL.in_l, DL.in_s, DL.len_l, DL.len_t, DL.len_s, DL.len_p, DL.list_l, DL.list_t, DL.list_s, DL.list_p, DL.tuple_l, DL.tuple_t, DL.int_i, DL.int_b, DL.abs_i, DL.max_i, DL.min_i, DL.all_l, DL.any_l, DL.isi_1, DL.isi_n, DL.sl_l, DL.sl_t, DL.sl_s, DL.neg_i, DL.isN_i, DL.notN_i, DL.eq_x, DL.ne_x,
  DL.w_wrote_many, DL.w_wrote_many_b, DL.w_wrote_among, DL.w_wrote_among_b, DL.w_wrote_did, DL.w_wrote_did_b, DL.w_wrote_times, DL.w_wrote_times_b, DL.w_wrote_value, DL.w_wrote_value_b, DL.w_wrote_head, DL.w_wrote_head_b, DL.w_many_wrote, DL.w_many_wrote_b, DL.w_many_among, DL.w_many_among_b, DL.w_many_did, DL.w_many_did_b, DL.w_many_times, DL.w_many_times_b, DL.w_many_value, DL.w_many_value_b, DL.w_many_head, DL.w_many_head_b, DL.w_among_wrote, DL.w_among_wrote_b, DL.w_among_many, DL.w_among_many_b, DL.w_among_did, DL.w_among_did_b, DL.w_among_times, DL.w_among_times_b, DL.w_among_value, DL.w_among_value_b, DL.w_among_head, DL.w_among_head_b, DL.w_did_wrote, DL.w_did_wrote_b, DL.w_did_many, DL.w_did_many_b, DL.w_did_among, DL.w_did_among_b, DL.w_did_times, DL.w_did_times_b, DL.w_did_value, DL.w_did_value_b, DL.w_did_head, DL.w_did_head_b, DL.w_times_wrote, DL.w_times_wrote_b, DL.w_times_many, DL.w_times_many_b, DL.w_times_among, DL.w_times_among_b, DL.w_times_did, DL.w_times_did_b, DL.w_times_value, DL.w_times_value_b, DL.w_times_head, DL.w_times_head_b, DL.w_value_wrote, DL.w_value_wrote_b, DL.w_value_many, DL.w_value_many_b, DL.w_value_among, DL.w_value_among_b, DL.w_value_did, DL.w_value_did_b, DL.w_value_times, DL.w_value_times_b, DL.w_value_head, DL.w_value_head_b, DL.w_head_wrote, DL.w_head_wrote_b, DL.w_head_many, DL.w_head_many_b, DL.w_head_among, DL.w_head_among_b, DL.w_head_did, DL.w_head_did_b, DL.w_head_times, DL.w_head_times_b, DL.w_head_value, DL.w_head_value_b,
  DL.q_ss, DL.q_ii, DL.q_bb, DL.q_nn, DL.q_tt, DL.q_ll, DL.q_si, DL.q_sn, DL.q_st, DL.q_sl, DL.q_is, DL.q_in, DL.q_it, DL.q_il, DL.q_ns, DL.q_ni, DL.q_nt, DL.q_nl, DL.q_ts, DL.q_ti, DL.q_tn, DL.q_tl, DL.q_ls, DL.q_li, DL.q_ln, DL.q_lt, DL.qs_nil, DL.qs_cons, DL.qs_nc, DL.qs_cn, DL.p_t16, DL.p_l16, DL.p_t15, DL.p_l15, DL.p_t14, DL.p_l14, DL.p_t13, DL.p_l13, DL.p_t12, DL.p_l12, DL.p_s, DL.p_i, DL.p_b, DL.p_n, DL.ps_nil, DL.ps_cons, DL.t_b, DL.t_i, DL.t_l, DL.t_t, DL.t_n, DL.n_n, DL.n_i, DL.n_s, DL.n_t, DL.n_l, DL.n_b, DL.f_s, DL.f_i,
  Bool.false_and, Bool.and_false, DL.z0, DL.z1, DL.z2, DL.z3, DL.z4, DL.z5, DL.z6, DL.z12,
  DL.startD, DL.sFrz, DL.sApp, DL.yesD, DL.lcTurn, DL.wipeE, DL.at0, DL.at1, DL.at2, DL.at3, DL.at4, List.map_cons, List.map_nil, List.replicate_succ, List.replicate_zero, List.length_cons, List.length_nil, List.cons_append, List.nil_append, List.set_cons_zero, List.set_cons_succ, List.getElem?_cons_zero, List.getElem?_cons_succ, Option.some.injEq, exists_eq_left, exists_eq_left', exists_eq', exists_eq, true_and, and_true, decide_eq_true_eq, if_true, if_false, Bool.false_eq_true, reduceIte, Nat.reduceAdd, Nat.reduceSub, DL.D.bl.injEq, DL.D.int.injEq, DL.D.str.injEq, DL.D.tup.injEq, DL.D.lst.injEq, DL.D.ptr.injEq, Bool.not_true, Bool.not_false, beq_self_eq_true, List.all_cons, List.all_nil, List.any_cons, List.any_nil, Bool.and_true, Bool.true_and, Bool.or_false, Bool.false_or, Bool.or_true, Bool.true_or, Bool.false_xor, Bool.true_xor, beq_iff_eq, Bool.not_eq_true, Int.reduceEq, Int.reduceBEq, and_self])

namespace K42
open PySem L2 DL
def PM.pure {α : Type} (v : α) : PM α := fun _ b => .ok v 0 b
def mEnd : Unit → PM Unit := fun _ => PM.pure ()
def mCommit : PM Unit := (mNum 1 20).bind fun _ => (mTake (isWord ["wrote", "many", "among", "did"])).bind fun w =>
  if w = "many" then (mNum 1 20).bind mEnd else if w = "did" then (mTake isKey).bind fun _ => mEnd () else mKeys.bind mEnd
def mTimes : PM Unit := (mNum 0 20).bind fun _ => (mTake (isWord ["times"])).bind fun _ => (mTake isKey).bind fun _ => (mNum 0 20).bind mEnd
def mValue : PM Unit := (mNum 1 20).bind fun _ => (mTake (isWord ["of"])).bind fun _ => (mTake isKey).bind fun _ => (mNum (-1000000) 1000000).bind mEnd
def mPiece : PM Unit := (mTake (isWord ["at", "by", "write", "head"])).bind fun w =>
  if w = "at" then mCommit else if w = "by" then mTimes else if w = "write" then mValue else (mNum 0 20).bind mEnd
def headEnd : List Tk → Bool
  | [] => true
  | tk :: _ => isEnd tk
def mLoop : Nat → PM Nat
  | 0 => fun _ _ => .er 0 ⟨#[]⟩
  | f + 1 => fun l b => if headEnd l = true then .ok 0 0 b else ((mTake isSep).bind fun _ => mPiece.bind fun _ => (mLoop f).bind fun c => PM.pure (c + 1)) l b
def mPieces : PM Nat := fun l b => if headEnd l = true then .ok 0 0 b else (mPiece.bind fun _ => (mLoop l.length).bind fun c => PM.pure (c + 1)) l b
theorem safe_pure {α : Type} {v : α} : Safe (PM.pure v) := by
  intro l b w n b1 hw h
  unfold PM.pure at h
  cases h
  exact hw
theorem safe_ite {α : Type} {c : Prop} [Decidable c] {x y : PM α} (h1 : Safe x) (h2 : Safe y) : Safe (if c then x else y) := by split; exact h1; exact h2
theorem safe_commit : Safe mCommit := safe_bind safe_num fun _ => safe_bind (safe_take (word_ne _)) fun _ => safe_ite (safe_bind safe_num fun _ => safe_pure) (safe_ite (safe_bind (safe_take key_ne) fun _ => safe_pure) (safe_bind safe_keys fun _ => safe_pure))
theorem safe_times : Safe mTimes := safe_bind safe_num fun _ => safe_bind (safe_take (word_ne _)) fun _ => safe_bind (safe_take key_ne) fun _ => safe_bind safe_num fun _ => safe_pure
theorem safe_value : Safe mValue := safe_bind safe_num fun _ => safe_bind (safe_take (word_ne _)) fun _ => safe_bind (safe_take key_ne) fun _ => safe_bind safe_num fun _ => safe_pure
theorem safe_piece : Safe mPiece := safe_bind (safe_take (word_ne _)) fun _ => safe_ite safe_commit (safe_ite safe_times (safe_ite safe_value (safe_bind safe_num fun _ => safe_pure)))
def rdU (M : PM Unit) (C : Addr) : CTX := fun ds μ Q Ed => match ds with
  | [.ptr r] => ∃ ts i b, RD C μ r ts i b ∧ Well (ts.drop i) ∧ Out C r ts i (M (ts.drop i) b) μ (fun _ μ' => ∀ d, Q d μ') Ed
  | _ => False
def C_read_commit (C : Addr) : CTX := rdU mCommit C
def C_read_times (C : Addr) : CTX := rdU mTimes C
def C_read_value (C : Addr) : CTX := rdU mValue C
def C_read_piece (C : Addr) : CTX := rdU mPiece C
def C_read_pieces (C : Addr) : CTX := fun ds μ Q Ed => match ds with
  | [.ptr r] => ∃ ts i b, RD C μ r ts i b ∧ Well (ts.drop i) ∧ ts.length ≤ 9001 ∧ Out C r ts i (mPieces (ts.drop i) b) μ (fun c μ' => ∀ ds : List D, ds.length = c → Q (.lst ds) μ') Ed
  | _ => False
section
variable {C r : Addr} {ts : List Tk} {i : Nat} {b : Option Nat} {μ : Mu} {β : Type} {Qa : β → Mu → Prop} {Ed Ed' : XD} {G : D → Mu → Prop}
theorem go_num {lo hi : Int} {k : Unit → PM β} (hr : RD C μ r ts i b) (hw : Well (ts.drop i)) (h : Out C r ts i (PM.bind (mNum lo hi) k (ts.drop i) b) μ Qa Ed)
    (hq : ∀ b', Well (ts.drop (i + 1)) → Out C r ts (i + 1) (k () (ts.drop (i + 1)) b') (adv C μ r ts (i + 1) b') Qa Ed → ∀ n : Int, G (.int n) (adv C μ r ts (i + 1) b')) (he : ∀ p m, Ed p m (μ.del r) → Ed' p m (μ.del r)) :
    C_Reader_take_number C [.ptr r, .int lo, .int hi] μ G Ed' := by
  refine ⟨ts, i, b, hr, hw, (out_bind h).mono (fun v μ' ⟨n, b1, hx, e, ho⟩ => ?_) he⟩
  subst e
  have hs := safe_num _ _ _ _ _ hw hx
  rw [List.drop_drop] at hs
  have hn : n = 1 := by
    obtain ⟨tk, r', e⟩ := hw.ne
    rw [e] at hx
    unfold mNum at hx
    simp only at hx
    split at hx <;> cases hx
    rfl
  subst hn
  exact hq b1 hs ho
theorem go_take {f : Tk → Bool} {k : Str → PM β} (hr : RD C μ r ts i b) (hw : Well (ts.drop i)) (hf : ∀ t, f t = true → t.k ≠ "end") (h : Out C r ts i (PM.bind (mTake f) k (ts.drop i) b) μ Qa Ed)
    (hq : ∀ tk, f tk = true → Well (ts.drop (i + 1)) → Out C r ts (i + 1) (k (tS tk) (ts.drop (i + 1)) b) (adv C μ r ts (i + 1) b) Qa Ed → G (.str (tS tk)) (adv C μ r ts (i + 1) b)) (he : ∀ p m, Ed p m (μ.del r) → Ed' p m (μ.del r)) :
    Out C r ts i (mTake f (ts.drop i) b) μ (fun w μ' => G (.str w) μ') Ed' := by
  refine (out_bind h).mono (fun v μ' ⟨n, b1, hx, e, ho⟩ => ?_) he
  subst e
  have hs := safe_take hf _ _ _ _ _ hw hx
  rw [List.drop_drop] at hs
  obtain ⟨tk, r', e⟩ := hw.ne
  have hh : f tk = true ∧ v = tS tk ∧ n = 1 ∧ b1 = b := by
    rw [e] at hx
    unfold mTake at hx
    simp only at hx
    split at hx
    · rename_i hf; cases hx; exact ⟨hf, rfl, rfl, rfl⟩
    · cases hx
  obtain ⟨h1, rfl, rfl, rfl⟩ := hh
  exact hq tk h1 hs ho
theorem go_word {ks : List Str} {k : Str → PM β} (hr : RD C μ r ts i b) (hw : Well (ts.drop i)) (h : Out C r ts i (PM.bind (mTake (isWord ks)) k (ts.drop i) b) μ Qa Ed)
    (hq : ∀ tk, isWord ks tk = true → Well (ts.drop (i + 1)) → Out C r ts (i + 1) (k (tS tk) (ts.drop (i + 1)) b) (adv C μ r ts (i + 1) b) Qa Ed → G (.str (tS tk)) (adv C μ r ts (i + 1) b)) (he : ∀ p m, Ed p m (μ.del r) → Ed' p m (μ.del r)) {ds : List D} (hd : ds = ks.map .str) :
    C_Reader_take_word C [.ptr r, .tup ds] μ G Ed' := ⟨ts, i, b, ks, hr, hw, by rw [hd], go_take hr hw (word_ne ks) h hq he⟩
theorem go_key {k : Str → PM β} (hr : RD C μ r ts i b) (hw : Well (ts.drop i)) (h : Out C r ts i (PM.bind (mTake isKey) k (ts.drop i) b) μ Qa Ed)
    (hq : ∀ tk, isKey tk = true → Well (ts.drop (i + 1)) → Out C r ts (i + 1) (k (tS tk) (ts.drop (i + 1)) b) (adv C μ r ts (i + 1) b) Qa Ed → G (.str (tS tk)) (adv C μ r ts (i + 1) b)) (he : ∀ p m, Ed p m (μ.del r) → Ed' p m (μ.del r)) :
    C_Reader_take_key C [.ptr r] μ G Ed' := ⟨ts, i, b, hr, hw, go_take hr hw key_ne h hq he⟩
theorem go_keys {k : Unit → PM β} (hr : RD C μ r ts i b) (hw : Well (ts.drop i)) (h : Out C r ts i (PM.bind mKeys k (ts.drop i) b) μ Qa Ed)
    (hq : ∀ n b', Well (ts.drop (i + n)) → Out C r ts (i + n) (k () (ts.drop (i + n)) b') (adv C μ r ts (i + n) b') Qa Ed → ∀ d, G d (adv C μ r ts (i + n) b')) (he : ∀ p m, Ed p m (μ.del r) → Ed' p m (μ.del r)) :
    C_Reader_take_keys C [.ptr r] μ G Ed' := by
  refine ⟨ts, i, b, hr, hw, (out_bind h).mono (fun v μ' ⟨n, b1, hx, e, ho⟩ => ?_) he⟩
  subst e
  have hs := safe_keys _ _ _ _ _ hw hx
  rw [List.drop_drop] at hs
  exact hq n b1 hs ho
theorem go_unit {M : PM Unit} {k : Unit → PM β} (S : Safe M) (hr : RD C μ r ts i b) (hw : Well (ts.drop i)) (h : Out C r ts i (PM.bind M k (ts.drop i) b) μ Qa Ed)
    (hq : ∀ n b', Well (ts.drop (i + n)) → Out C r ts (i + n) (k () (ts.drop (i + n)) b') (adv C μ r ts (i + n) b') Qa Ed → ∀ d, G d (adv C μ r ts (i + n) b')) (he : ∀ p m, Ed p m (μ.del r) → Ed' p m (μ.del r)) :
    rdU M C [.ptr r] μ G Ed' := by
  refine ⟨ts, i, b, hr, hw, (out_bind h).mono (fun v μ' ⟨n, b1, hx, e, ho⟩ => ?_) he⟩
  subst e
  have hs := S _ _ _ _ _ hw hx
  rw [List.drop_drop] at hs
  exact hq n b1 hs ho
end
theorem out_end {C r : Addr} {ts l : List Tk} {i : Nat} {b : Option Nat} {μ : Mu} {Qa : Unit → Mu → Prop} {Ed : XD} (h : Out C r ts i (mEnd () l b) (adv C μ r ts i b) Qa Ed) : Qa () (adv C μ r ts i b) := by
  have h' : Qa () (adv C (adv C μ r ts i b) r ts (i + 0) b) := h
  rw [adv_adv] at h'
  exact h'
theorem del_del {μ : Mu} {r : Addr} : (μ.del r).del r = μ.del r := by
  funext x; unfold Mu.del; split <;> rfl
section
variable {P : Program} {w : World} {K : PySem.W.Frag} {mg : Str → Option Value} {base : Heap}
theorem nm {m : Str} (ts : List Tk) (i : Nat) (b : Option Nat) (h : ((m == "tokens") || (m == "passed") || (m == "beyond")) = false := by decide +kernel) : (flds ts i b).lookup m = none := by
  simp only [Bool.or_eq_false_iff] at h
  exact l_no ts i b h.1.1 h.1.2 h.2
theorem ok_read_times (T : Tx K mg) : FnOk P w K mg base (L2.CX P w) 5 T.a_read_times T.d_read_times ["reader"] (spX T.C_TextError K (C_read_times T.C_Reader)) :=
  DL.Fun.okXf (N := ["reader", "version", "word", "key"]) T.F_read_times sc_read_times (fun cdv A outer s H E hr => 
      (ssx_cons (sx_set 1 sc_read_times.nd (xe_meth T.cl_Reader T.mt_Reader_take_number (ok_Reader_take_number T) (hr.mono (by decide)) T.v_Reader_take_number (passes_call (takes_of rfl rfl rfl rfl) fun _ _ _ _ h => h) (dv 0) (xa_cons (xe_of de_int) (xa_cons (xe_of (de_globI rfl T.g_LAST_VERSION)) xa_nil)))) 
      (ssx_cons (sx_set 2 sc_read_times.nd (xe_meth T.cl_Reader T.mt_Reader_take_word (ok_Reader_take_word T) (hr.mono (by decide)) T.v_Reader_take_word (passes_call (takes_of rfl rfl rfl rfl) fun _ _ _ _ h => h) (dv 0) (xa_cons (xe_of (de_tup (da_cons (de_str) da_nil))) xa_nil))) 
      (ssx_cons (sx_set 3 sc_read_times.nd (xe_meth0 T.cl_Reader T.mt_Reader_take_key (ok_Reader_take_key T) (hr.mono (by decide)) T.v_Reader_take_key (passes_call (takes_of rfl rfl rfl rfl) fun _ _ _ _ h => h) (dv 0))) 
      (ssx_one (sx_ret (xe_tup (xa_cons (xe_of (dv 2)) (xa_cons (xe_of (dv 3)) (xa_cons (xe_of (dv 1)) (xa_cons (xe_meth T.cl_Reader T.mt_Reader_take_number (ok_Reader_take_number T) (hr.mono (by decide)) T.v_Reader_take_number (passes_call (takes_of rfl rfl rfl rfl) fun _ _ _ _ h => h) (dv 0) (xa_cons (xe_of de_int) (xa_cons (xe_of (de_globI rfl T.g_MOST_WRITES)) xa_nil))) xa_nil)))))))))))
    (by intro ds μ Q Ed h; unfold C_read_times at h; (try unfold rdU at h); split at h <;> first | rfl | exact h.elim) (by
  intro ds μ Q Ed h
  unfold C_read_times rdU at h
  split at h
  · rename_i ds' r
    obtain ⟨ts, i, b, hr, hw, ho⟩ := h
    unfold mTimes at ho
    (walk_at "dl")
    refine ⟨r, _, rfl, hr, nm ts _ _, go_num hr hw ho (fun b1 hw ho n1 => ?_) fun p m he => ⟨_, sub_refl, he⟩⟩
    refine ⟨r, _, rfl, rd_adv, nm ts _ _, go_word (ks := ["times"]) rd_adv hw ho (fun t1 f1 hw ho => ?_) (fun p m he => ⟨_, sub_refl, he⟩) rfl⟩
    refine ⟨r, _, rfl, rd_adv, nm ts _ _, go_key rd_adv hw ho (fun t2 f2 hw ho => ?_) (fun p m he => ⟨_, sub_refl, he⟩)⟩
    refine ⟨r, _, rfl, rd_adv, nm ts _ _, go_num rd_adv hw ho (fun b2 hw ho n2 => ?_) fun p m he => ⟨_, sub_refl, he⟩⟩
    exact ⟨_, sub_refl, out_end ho _⟩
  · exact h.elim
)

theorem ok_read_value (T : Tx K mg) : FnOk P w K mg base (L2.CX P w) 5 T.a_read_value T.d_read_value ["reader"] (spX T.C_TextError K (C_read_value T.C_Reader)) :=
  DL.Fun.okXf (N := ["reader", "number", "key"]) T.F_read_value sc_read_value (fun cdv A outer s H E hr => 
      (ssx_cons (sx_set 1 sc_read_value.nd (xe_meth T.cl_Reader T.mt_Reader_take_number (ok_Reader_take_number T) (hr.mono (by decide)) T.v_Reader_take_number (passes_call (takes_of rfl rfl rfl rfl) fun _ _ _ _ h => h) (dv 0) (xa_cons (xe_of de_int) (xa_cons (xe_of (de_globI rfl T.g_MOST_WRITES)) xa_nil)))) 
      (ssx_cons (sx_expr (xe_meth T.cl_Reader T.mt_Reader_take_word (ok_Reader_take_word T) (hr.mono (by decide)) T.v_Reader_take_word (passes_call (takes_of rfl rfl rfl rfl) fun _ _ _ _ h => h) (dv 0) (xa_cons (xe_of (de_tup (da_cons (de_str) da_nil))) xa_nil))) 
      (ssx_cons (sx_set 2 sc_read_value.nd (xe_meth0 T.cl_Reader T.mt_Reader_take_key (ok_Reader_take_key T) (hr.mono (by decide)) T.v_Reader_take_key (passes_call (takes_of rfl rfl rfl rfl) fun _ _ _ _ h => h) (dv 0))) 
      (ssx_one (sx_ret (xe_tup (xa_cons (xe_of (de_str)) (xa_cons (xe_of (dv 2)) (xa_cons (xe_of (dv 1)) (xa_cons (xe_meth T.cl_Reader T.mt_Reader_take_number (ok_Reader_take_number T) (hr.mono (by decide)) T.v_Reader_take_number (passes_call (takes_of rfl rfl rfl rfl) fun _ _ _ _ h => h) (dv 0) (xa_cons (xe_of (de_neg (de_globI rfl T.g_FARTHEST_VALUE))) (xa_cons (xe_of (de_globI rfl T.g_FARTHEST_VALUE)) xa_nil))) xa_nil)))))))))))
    (by intro ds μ Q Ed h; unfold C_read_value at h; (try unfold rdU at h); split at h <;> first | rfl | exact h.elim) (by
  intro ds μ Q Ed h
  unfold C_read_value rdU at h
  split at h
  · rename_i ds' r
    obtain ⟨ts, i, b, hr, hw, ho⟩ := h
    unfold mValue at ho
    (walk_at "dl")
    refine ⟨r, _, rfl, hr, nm ts _ _, go_num hr hw ho (fun b1 hw ho n1 => ?_) fun p m he => ⟨_, sub_refl, he⟩⟩
    refine ⟨r, _, rfl, rd_adv, nm ts _ _, go_word (ks := ["of"]) rd_adv hw ho (fun t1 f1 hw ho => ?_) (fun p m he => ⟨_, sub_refl, he⟩) rfl⟩
    refine ⟨r, _, rfl, rd_adv, nm ts _ _, go_key rd_adv hw ho (fun t2 f2 hw ho => ?_) (fun p m he => ⟨_, sub_refl, he⟩)⟩
    refine ⟨r, _, rfl, rd_adv, nm ts _ _, go_num rd_adv hw ho (fun b2 hw ho n2 => ?_) fun p m he => ⟨_, sub_refl, he⟩⟩
    exact ⟨_, sub_refl, out_end ho _⟩
  · exact h.elim
)

theorem ok_read_commit (T : Tx K mg) : FnOk P w K mg base (L2.CX P w) 6 T.a_read_commit T.d_read_commit ["reader"] (spX T.C_TextError K (C_read_commit T.C_Reader)) :=
  DL.Fun.okXf (N := ["reader", "version", "word"]) T.F_read_commit sc_read_commit (fun cdv A outer s H E hr => 
      (ssx_cons (sx_set 1 sc_read_commit.nd (xe_meth T.cl_Reader T.mt_Reader_take_number (ok_Reader_take_number T) (hr.mono (by decide)) T.v_Reader_take_number (passes_call (takes_of rfl rfl rfl rfl) fun _ _ _ _ h => h) (dv 0) (xa_cons (xe_of de_int) (xa_cons (xe_of (de_globI rfl T.g_LAST_VERSION)) xa_nil)))) 
      (ssx_cons (sx_set 2 sc_read_commit.nd (xe_meth T.cl_Reader T.mt_Reader_take_word (ok_Reader_take_word T) (hr.mono (by decide)) T.v_Reader_take_word (passes_call (takes_of rfl rfl rfl rfl) fun _ _ _ _ h => h) (dv 0) (xa_cons (xe_of (de_tup (da_cons (de_str) (da_cons (de_str) (da_cons (de_str) (da_cons (de_str) da_nil)))))) xa_nil))) 
      (ssx_cons (sx_if (dt_cmp (op_eqD hr.units) od_eq (dv 2) (de_str) (nomark _)) 
      (ssx_one (sx_ret (xe_tup (xa_cons (xe_of (dv 2)) (xa_cons (xe_of (dv 1)) (xa_cons (xe_meth T.cl_Reader T.mt_Reader_take_number (ok_Reader_take_number T) (hr.mono (by decide)) T.v_Reader_take_number (passes_call (takes_of rfl rfl rfl rfl) fun _ _ _ _ h => h) (dv 0) (xa_cons (xe_of de_int) (xa_cons (xe_of (de_globI rfl T.g_MOST_WRITES)) xa_nil))) xa_nil)))))) ssx_nil) 
      (ssx_cons (sx_if (dt_cmp (op_eqD hr.units) od_eq (dv 2) (de_str) (nomark _)) 
      (ssx_one (sx_ret (xe_tup (xa_cons (xe_of (dv 2)) (xa_cons (xe_of (dv 1)) (xa_cons (xe_meth0 T.cl_Reader T.mt_Reader_take_key (ok_Reader_take_key T) (hr.mono (by decide)) T.v_Reader_take_key (passes_call (takes_of rfl rfl rfl rfl) fun _ _ _ _ h => h) (dv 0)) xa_nil)))))) ssx_nil) 
      (ssx_one (sx_ret (xe_tup (xa_cons (xe_of (dv 2)) (xa_cons (xe_of (dv 1)) (xa_cons (xe_meth0 T.cl_Reader T.mt_Reader_take_keys (ok_Reader_take_keys T) (hr.mono (by decide)) T.v_Reader_take_keys (passes_call (takes_of rfl rfl rfl rfl) fun _ _ _ _ h => h) (dv 0)) xa_nil)))))))))))
    (by intro ds μ Q Ed h; unfold C_read_commit at h; (try unfold rdU at h); split at h <;> first | rfl | exact h.elim) (by
  intro ds μ Q Ed h
  unfold C_read_commit rdU at h
  split at h
  · rename_i ds' r
    obtain ⟨ts, i, b, hr, hw, ho⟩ := h
    unfold mCommit at ho
    (walk_at "dl")
    refine ⟨r, _, rfl, hr, nm ts _ _, go_num hr hw ho (fun b1 hw ho n1 => ?_) fun p m he => ⟨_, sub_refl, he⟩⟩
    refine ⟨r, _, rfl, rd_adv, nm ts _ _, go_word (ks := ["wrote", "many", "among", "did"]) rd_adv hw ho (fun t1 f1 hw ho => ?_) (fun p m he => ⟨_, sub_refl, he⟩) rfl⟩
    (walk_at "dl")
    by_cases c1 : tS t1 = "many"
    · rw [if_pos c1] at ho ⊢
      refine ⟨r, _, rfl, rd_adv, nm ts _ _, go_num rd_adv hw ho (fun b2 hw ho n2 => ?_) fun p m he => ⟨_, sub_refl, he⟩⟩
      exact ⟨_, sub_refl, out_end ho _⟩
    · rw [if_neg c1] at ho ⊢
      by_cases c2 : tS t1 = "did"
      · rw [if_pos c2] at ho ⊢
        refine ⟨r, _, rfl, rd_adv, nm ts _ _, go_key rd_adv hw ho (fun t2 f2 hw ho => ?_) (fun p m he => ⟨_, sub_refl, he⟩)⟩
        exact ⟨_, sub_refl, out_end ho _⟩
      · rw [if_neg c2] at ho ⊢
        refine ⟨r, _, rfl, rd_adv, nm ts _ _, go_keys rd_adv hw ho (fun n2 b2 hw ho d => ?_) fun p m he => ⟨_, sub_refl, he⟩⟩
        exact ⟨_, sub_refl, out_end ho _⟩
  · exact h.elim
)

theorem ok_read_piece (T : Tx K mg) : FnOk P w K mg base (L2.CX P w) 7 T.a_read_piece T.d_read_piece ["reader"] (spX T.C_TextError K (C_read_piece T.C_Reader)) :=
  DL.Fun.okXf (N := ["reader", "word"]) T.F_read_piece sc_read_piece (fun cdv A outer s H E hr => 
      (ssx_cons (sx_set 1 sc_read_piece.nd (xe_meth T.cl_Reader T.mt_Reader_take_word (ok_Reader_take_word T) (hr.mono (by decide)) T.v_Reader_take_word (passes_call (takes_of rfl rfl rfl rfl) fun _ _ _ _ h => h) (dv 0) (xa_cons (xe_of (de_tup (da_cons (de_str) (da_cons (de_str) (da_cons (de_str) (da_cons (de_str) da_nil)))))) xa_nil))) 
      (ssx_cons (sx_if (dt_cmp (op_eqD hr.units) od_eq (dv 1) (de_str) (nomark _)) 
      (ssx_one (sx_ret (xe_call (ok_read_commit T) (hr.mono (by decide)) (by rfl) T.m_read_commit T.k_read_commit T.v_read_commit (passes_call (takes_of rfl rfl rfl rfl) fun _ _ _ _ h => h) (xa_cons (xe_of (dv 0)) xa_nil)))) ssx_nil) 
      (ssx_cons (sx_if (dt_cmp (op_eqD hr.units) od_eq (dv 1) (de_str) (nomark _)) 
      (ssx_one (sx_ret (xe_call (ok_read_times T) (hr.mono (by decide)) (by rfl) T.m_read_times T.k_read_times T.v_read_times (passes_call (takes_of rfl rfl rfl rfl) fun _ _ _ _ h => h) (xa_cons (xe_of (dv 0)) xa_nil)))) ssx_nil) 
      (ssx_cons (sx_if (dt_cmp (op_eqD hr.units) od_eq (dv 1) (de_str) (nomark _)) 
      (ssx_one (sx_ret (xe_call (ok_read_value T) (hr.mono (by decide)) (by rfl) T.m_read_value T.k_read_value T.v_read_value (passes_call (takes_of rfl rfl rfl rfl) fun _ _ _ _ h => h) (xa_cons (xe_of (dv 0)) xa_nil)))) ssx_nil) 
      (ssx_one (sx_ret (xe_tup (xa_cons (xe_of (dv 1)) (xa_cons (xe_meth T.cl_Reader T.mt_Reader_take_number (ok_Reader_take_number T) (hr.mono (by decide)) T.v_Reader_take_number (passes_call (takes_of rfl rfl rfl rfl) fun _ _ _ _ h => h) (dv 0) (xa_cons (xe_of de_int) (xa_cons (xe_of (de_globI rfl T.g_LAST_VERSION)) xa_nil))) xa_nil))))))))))
    (by intro ds μ Q Ed h; unfold C_read_piece at h; (try unfold rdU at h); split at h <;> first | rfl | exact h.elim) (by
  intro ds μ Q Ed h
  unfold C_read_piece rdU at h
  split at h
  · rename_i ds' r
    obtain ⟨ts, i, b, hr, hw, ho⟩ := h
    unfold mPiece at ho
    (walk_at "dl")
    refine ⟨r, _, rfl, hr, nm ts _ _, go_word (ks := ["at", "by", "write", "head"]) hr hw ho (fun t1 f1 hw ho => ?_) (fun p m he => ⟨_, sub_refl, he⟩) rfl⟩
    (walk_at "dl")
    have fin : ∀ {M : PM Unit} {E' : XD}, Out T.C_Reader r ts (i + 1) (M (ts.drop (i + 1)) b) (adv T.C_Reader μ r ts (i + 1) b) (fun x μ' => ∀ d, Q d μ') Ed → (∀ p m, Ed p m ((adv T.C_Reader μ r ts (i + 1) b).del r) → E' p m ((adv T.C_Reader μ r ts (i + 1) b).del r)) → rdU M T.C_Reader [.ptr r] (adv T.C_Reader μ r ts (i + 1) b) (fun d μ' => ∃ μ2, DL.Sub μ2 μ' ∧ Q d μ2) E' :=
      fun ho he => ⟨ts, i + 1, b, rd_adv, hw, ho.mono (fun v μ' hd d => ⟨_, sub_refl, hd d⟩) he⟩
    by_cases c1 : tS t1 = "at"
    · rw [if_pos c1] at ho ⊢
      exact fin ho fun p m he => ⟨_, sub_refl, he⟩
    · rw [if_neg c1] at ho ⊢
      by_cases c2 : tS t1 = "by"
      · rw [if_pos c2] at ho ⊢
        exact fin ho fun p m he => ⟨_, sub_refl, he⟩
      · rw [if_neg c2] at ho ⊢
        by_cases c3 : tS t1 = "write"
        · rw [if_pos c3] at ho ⊢
          exact fin ho fun p m he => ⟨_, sub_refl, he⟩
        · rw [if_neg c3] at ho ⊢
          refine ⟨r, _, rfl, rd_adv, nm ts _ _, go_num rd_adv hw ho (fun b2 hw ho n2 => ?_) fun p m he => ⟨_, sub_refl, he⟩⟩
          exact ⟨_, sub_refl, out_end ho _⟩
  · exact h.elim
)
end
end K42
end

-- part E5
section
local macro_rules | `(tactic| walk_at "dl") => `(tactic| simp only [DL.sRet, DL.dJoined, DL.dJs, DL.dFmt, DL.dFld, DL.dMeth, DL.dMake, DL.sFld, DL.sFldI, DL.sSeq, DL.sSet, DL.sIf, DL.sNext, DL.sNever, DL.sDrop, DL.sAsg, DL.sRetN, DL.dVar, DL.dC, DL.dOp, DL.dTest, DL.dAnd, DL.dOr, DL.dNot, DL.dTru, DL.dAndV, DL.dOrV, DL.dNotV, DL.dIf, DL.aNil, DL.aCons, DL.dTup, DL.dLst, DL.dLstM, DL.dCall, DL.dFrz, DL.dB, DL.dNeg, DL.dSl, DL.oNone, DL.oSome, DL.dChn, DL.gN, DL.gT, DL.setAll, DL.fOf, DL.aNilX, DL.aConsX, DL.dTupX, DL.dLstMX, DL.dCallX, DL.dCallN, DL.dMethX, DL.xOf, DL.xNext, DL.xSeq, DL.xDrop, DL.xRet, DL.xIf, DL.xSet, DL.xFrz, DL.xApp, DL.xRaise, DL.dWix, DL.dWget, DL.optS,
  DL.ix_l, DL.ix_t, DL.ix_s, DL.ix_p, DL.add_i, DL.add_s, DL.add_l, DL.add_t, DL.mul_i, DL.mul_b, DL.sub_i, DL.fdiv_i, DL.mod_i, DL.pow_i, DL.shl_i, DL.shr_i, DL.and_i, DL.lt_i, DL.le_i, DL.gt_i, DL.ge_i, DL.le_s, DL.in_t, DL.in_l, DL.in_s, DL.len_l, DL.len_t, DL.len_s, DL.len_p, DL.list_l, DL.list_t, DL.list_s, DL.list_p, DL.tuple_l, DL.tuple_t, DL.int_i, DL.int_b, DL.abs_i, DL.max_i, DL.min_i, DL.all_l, DL.any_l, DL.isi_1, DL.isi_n, DL.sl_l, DL.sl_t, DL.sl_s, DL.neg_i, DL.isN_i, DL.notN_i, DL.eq_x, DL.ne_x,
  DL.w_wrote_many, DL.w_wrote_many_b, DL.w_wrote_among, DL.w_wrote_among_b, DL.w_wrote_did, DL.w_wrote_did_b, DL.w_wrote_times, DL.w_wrote_times_b, DL.w_wrote_value, DL.w_wrote_value_b, DL.w_wrote_head, DL.w_wrote_head_b, DL.w_many_wrote, DL.w_many_wrote_b, DL.w_many_among, DL.w_many_among_b, DL.w_many_did, DL.w_many_did_b, DL.w_many_times, DL.w_many_times_b, DL.w_many_value, DL.w_many_value_b, DL.w_many_head, DL.w_many_head_b, DL.w_among_wrote, DL.w_among_wrote_b, DL.w_among_many, DL.w_among_many_b, DL.w_among_did, DL.w_among_did_b, DL.w_among_times, DL.w_among_times_b, DL.w_among_value, DL.w_among_value_b, DL.w_among_head, DL.w_among_head_b, DL.w_did_wrote, DL.w_did_wrote_b, DL.w_did_many, DL.w_did_many_b, DL.w_did_among, DL.w_did_among_b, DL.w_did_times, DL.w_did_times_b, DL.w_did_value, DL.w_did_value_b, DL.w_did_head, DL.w_did_head_b, DL.w_times_wrote, DL.w_times_wrote_b, DL.w_times_many, DL.w_times_many_b, DL.w_times_among, DL.w_times_among_b, DL.w_times_did, DL.w_times_did_b, DL.w_times_value, DL.w_times_value_b, DL.w_times_head, DL.w_times_head_b, DL.w_value_wrote, DL.w_value_wrote_b, DL.w_value_many, DL.w_value_many_b, DL.w_value_among, DL.w_value_among_b, DL.w_value_did, DL.w_value_did_b, DL.w_value_times, DL.w_value_times_b, DL.w_value_head, DL.w_value_head_b, DL.w_head_wrote, DL.w_head_wrote_b, DL.w_head_many, DL.w_head_many_b, DL.w_head_among, DL.w_head_among_b, DL.w_head_did, DL.w_head_did_b, DL.w_head_times, DL.w_head_times_b, DL.w_head_value, DL.w_head_value_b,
  DL.q_ss, DL.q_ii, DL.q_bb, DL.q_nn, DL.q_tt, DL.q_ll, DL.q_si, DL.q_sn, DL.q_st, DL.q_sl, DL.q_is, DL.q_in, DL.q_it, DL.q_il, DL.q_ns, DL.q_ni, DL.q_nt, DL.q_nl, DL.q_ts, DL.q_ti, DL.q_tn, DL.q_tl, DL.q_ls, DL.q_li, DL.q_ln, DL.q_lt, DL.qs_nil, DL.qs_cons, DL.qs_nc, DL.qs_cn, DL.p_t16, DL.p_l16, DL.p_t15, DL.p_l15, DL.p_t14, DL.p_l14, DL.p_t13, DL.p_l13, DL.p_t12, DL.p_l12, DL.p_s, DL.p_i, DL.p_b, DL.p_n, DL.ps_nil, DL.ps_cons, DL.t_b, DL.t_i, DL.t_l, DL.t_t, DL.t_n, DL.n_n, DL.n_i, DL.n_s, DL.n_t, DL.n_l, DL.n_b, DL.f_s, DL.f_i,
  Bool.false_and, Bool.and_false, DL.z0, DL.z1, DL.z2, DL.z3, DL.z4, DL.z5, DL.z6, DL.z12,
  DL.startD, DL.sFrz, DL.sApp, DL.yesD, DL.lcTurn, DL.wipeE, DL.at0, DL.at1, DL.at2, DL.at3, DL.at4, List.map_cons, List.map_nil, List.replicate_succ, List.replicate_zero, List.length_cons, List.length_nil, List.cons_append, List.nil_append, List.set_cons_zero, List.set_cons_succ, List.getElem?_cons_zero, List.getElem?_cons_succ, Option.some.injEq, exists_eq_left, exists_eq_left', exists_eq', exists_eq, true_and, and_true, decide_eq_true_eq, if_true, if_false, Bool.false_eq_true, reduceIte, Nat.reduceAdd, Nat.reduceSub, DL.D.bl.injEq, DL.D.int.injEq, DL.D.str.injEq, DL.D.tup.injEq, DL.D.lst.injEq, DL.D.ptr.injEq, Bool.not_true, Bool.not_false, beq_self_eq_true, List.all_cons, List.all_nil, List.any_cons, List.any_nil, Bool.and_true, Bool.true_and, Bool.or_false, Bool.false_or, Bool.or_true, Bool.true_or, Bool.false_xor, Bool.true_xor, beq_iff_eq, Bool.not_eq_true, Int.reduceEq, Int.reduceBEq, and_self])

namespace K42
open PySem L2 DL
theorem adv_self {C r : Addr} {μ : Mu} {ts : List Tk} {i : Nat} {b : Option Nat} (h : RD C μ r ts i b) : adv C μ r ts i b = μ := by
  funext x; unfold adv Mu.put
  by_cases e : x = r
  · rw [if_pos e, e]; exact h.symm
  · rw [if_neg e]
theorem del_put2 {C r p : Addr} {ν : Mu} {o : MO} {ts : List Tk} {i : Nat} {b : Option Nat} (hn : ν p = none) (hp : p ≠ r) : (adv C (ν.put p o) r ts i b).del p = adv C ν r ts i b := by
  funext x; unfold Mu.del adv Mu.put
  by_cases e : x = p
  · subst e; rw [if_pos rfl, if_neg hp, hn]
  · rw [if_neg e]
    by_cases e2 : x = r
    · rw [if_pos e2, if_pos e2]
    · rw [if_neg e2, if_neg e2, if_neg e]
theorem del_put3 {r p : Addr} {ν : Mu} {o : MO} (hn : ν p = none) : ((ν.put p o).del r).del p = ν.del r := by
  funext x; unfold Mu.del Mu.put
  by_cases e : x = p
  · subst e; rw [if_pos rfl]
    split
    · rfl
    · exact hn.symm
  · rw [if_neg e, if_neg e]
theorem out_put {α : Type} {C r p : Addr} {ts : List Tk} {i : Nat} {x : Rs α} {ν : Mu} {o : MO} {Qa : α → Mu → Prop} {Ed : XD} (hn : ν p = none) (hp : p ≠ r) : Out C r ts i x (ν.put p o) (fun v μ' => Qa v (μ'.del p)) (fun q m μ' => Ed q m (μ'.del p)) ↔ Out C r ts i x ν Qa Ed := by
  cases x with
  | ok v n b =>
    show Qa v ((adv C (ν.put p o) r ts (i + n) b).del p) ↔ Qa v (adv C ν r ts (i + n) b)
    rw [del_put2 hn hp]
  | er q m =>
    show Ed q m (((ν.put p o).del r).del p) ↔ Ed q m (ν.del r)
    rw [del_put3 hn]
theorem out_pure {α β : Type} {C r : Addr} {ts : List Tk} {i : Nat} {b : Option Nat} {x : PM α} {g : α → β} {μ : Mu} {Qa : β → Mu → Prop} {Ed : XD} (h : Out C r ts i (PM.bind x (fun v => PM.pure (g v)) (ts.drop i) b) μ Qa Ed) :
    Out C r ts i (x (ts.drop i) b) μ (fun v μ' => Qa (g v) μ') Ed := by
  unfold PM.bind PM.pure at h
  cases hx : x (ts.drop i) b with
  | ok v n b1 => rw [hx] at h; exact h
  | er p m => rw [hx] at h; exact h
theorem adv_put {C r p : Addr} {μ : Mu} {o : MO} {ts : List Tk} {i : Nat} {b : Option Nat} (hp : p ≠ r) : adv C (μ.put p o) r ts i b = (adv C μ r ts i b).put p o := put_comm hp
theorem go_sep {β : Type} {C r : Addr} {ts : List Tk} {i : Nat} {b : Option Nat} {μ : Mu} {Qa : β → Mu → Prop} {Ed Ed' : XD} {G : D → Mu → Prop} {tk : Tk} {k : Str → PM β} (hr : RD C μ r ts i b) (hw : Well (ts.drop i)) (ht : ts[i]? = some tk) (h : Out C r ts i (PM.bind (mTake isSep) k (ts.drop i) b) μ Qa Ed)
    (hq : Well (ts.drop (i + 1)) → Out C r ts (i + 1) (k (tS tk) (ts.drop (i + 1)) b) (adv C μ r ts (i + 1) b) Qa Ed → G (.str (tS tk)) (adv C μ r ts (i + 1) b)) (he : ∀ p m, Ed p m (μ.del r) → Ed' p m (μ.del r)) :
    C_Reader_take C [.ptr r, .bl (tk.k == ("separator" : Str))] μ G Ed' := by
  obtain ⟨tk2, ht2, e⟩ := hw.at
  have et : tk2 = tk := by rw [ht] at ht2; exact (Option.some.inj ht2).symm
  subst et
  have g := out_take e (go_take (G := fun d μ' => d = .str (tS tk2) → G d μ') (Ed' := Ed') hr hw sep_ne h (fun t f1 hw2 ho2 ed => by injection ed with ed; rw [ed] at ho2 ⊢; exact hq hw2 ho2) he)
  exact ⟨ts, i, b, tk2, hr, ht, fun hf => g.1 hf rfl, g.2⟩
def C_parse_news : CTX := fun ds μ Q Ed => match ds with
  | [.str t] => t.length ≤ 9000 ∧ ∃ ts r, Scn false 0 t.cps.toList ts r ∧ (match r with
    | some q => Ed (q : Nat) "unknown character" μ
    | none => Well ts ∧ ts.length ≤ 9001 ∧ (match mPieces ts none with
      | .er p m => Ed p m μ
      | .ok c n b => (match b with
        | some p => Ed p "number out of range" μ
        | none => if 40 < c then (∃ tk, ts[0]? = some tk ∧ Ed tk.p "too many pieces" μ) else ∀ ds : List D, Q (.lst ds) μ)))
  | _ => False
section
variable {P : Program} {w : World} {K : PySem.W.Frag} {mg : Str → Option Value} {base : Heap}
theorem ok_read_pieces (T : Tx K mg) : FnOk P w K mg base (L2.CX P w) 8 T.a_read_pieces T.d_read_pieces ["reader"] (spX T.C_TextError K (C_read_pieces T.C_Reader)) :=
  DL.Fun.okXf (N := ["reader", "news"]) T.F_read_pieces sc_read_pieces (fun cdv A outer s H E hr => 
      (ssx_cons (sx_of (ds_if (dt_tru (de_meth T.cl_Reader T.mt_Reader_sees (ok_Reader_sees T) (hr.mono (by decide)) T.v_Reader_sees pass0 (dv 0) (da_cons (de_globS rfl T.g_END) da_nil))) 
      (dss_one (ds_ret (de_lst da_nil))) dss_nil)) 
      (ssx_cons (sx_set 1 sc_read_pieces.nd (xe_lstM (xa_cons (xe_call (ok_read_piece T) (hr.mono (by decide)) (by rfl) T.m_read_piece T.k_read_piece T.v_read_piece (passes_call (takes_of rfl rfl rfl rfl) fun _ _ _ _ h => h) (xa_cons (xe_of (dv 0)) xa_nil)) xa_nil))) 
      (ssx_cons (sx_while (passes_of rfl) (dt_not (dt_tru (de_meth T.cl_Reader T.mt_Reader_sees (ok_Reader_sees T) (hr.mono (by decide)) T.v_Reader_sees pass0 (dv 0) (da_cons (de_globS rfl T.g_END) da_nil)))) 
      (ssx_cons (sx_expr (xe_meth T.cl_Reader T.mt_Reader_take (ok_Reader_take T) (hr.mono (by decide)) T.v_Reader_take (passes_call (takes_of rfl rfl rfl rfl) fun _ _ _ _ h => h) (dv 0) (xa_cons (xe_of (de_meth T.cl_Reader T.mt_Reader_sees (ok_Reader_sees T) (hr.mono (by decide)) T.v_Reader_sees pass0 (dv 0) (da_cons (de_globS rfl T.g_SEPARATOR) da_nil))) xa_nil))) 
      (ssx_one (sx_app (dv 1) (xe_call (ok_read_piece T) (hr.mono (by decide)) (by rfl) T.m_read_piece T.k_read_piece T.v_read_piece (passes_call (takes_of rfl rfl rfl rfl) fun _ _ _ _ h => h) (xa_cons (xe_of (dv 0)) xa_nil)))))) 
      (ssx_frz 1 (ssx_one (sx_of (ds_ret (dv 1)))))))))
    (by intro ds μ Q Ed h; unfold C_read_pieces at h; (try unfold rdU at h); split at h <;> first | rfl | exact h.elim) (by
  intro ds μ Q Ed h
  unfold C_read_pieces at h
  split at h
  · rename_i ds' r
    obtain ⟨ts, i, b, hr, hw, hl, ho⟩ := h
    obtain ⟨tk, ht, e⟩ := hw.at
    have ehe : headEnd (ts.drop i) = isEnd tk := by rw [e]; rfl
    unfold mPieces at ho
    rw [ehe] at ho
    refine stepx (fun ρ' μ' => ρ' = [some (.ptr r), none] ∧ μ = μ' ∧ isEnd tk = false) (fun E' hE' hEx hRt => ?_) fun ρ' μ' hS => ?_
    · (walk_at "dl")
      refine ⟨r, _, rfl, hr, nm ts i b, ts, i, b, tk, hr, ht, ?_⟩
      cases hk : isEnd tk with
      | true =>
        rw [hk, if_pos rfl] at ho
        have hk' : (tk.k == Str.ofString "end") = true := hk
        rw [hk']
        refine ⟨true, rfl, ?_⟩
        rw [if_pos rfl, hRt]
        have ho' : ∀ ds : List D, ds.length = 0 → Q (.lst ds) (adv T.C_Reader μ r ts (i + 0) b) := ho
        refine ⟨_, sub_refl, ?_⟩
        have := ho' [] rfl
        rw [Nat.add_zero, adv_self hr] at this
        exact this
      | false =>
        have hk' : (tk.k == Str.ofString "end") = false := hk
        rw [hk']
        refine ⟨false, rfl, ?_⟩
        rw [if_neg (by decide)]
        exact hE' _ _ ⟨rfl, rfl, hk⟩
    obtain ⟨rfl, rfl, hk⟩ := hS
    rw [hk, if_neg (by decide)] at ho
    refine stepx_setX (fun d μ2 => ∃ p d0 n b1, d = .ptr p ∧ p ≠ r ∧ μ p = none ∧ μ2 = (adv T.C_Reader μ r ts (i + n) b1).put p (.lst [d0]) ∧ Well (ts.drop (i + n)) ∧ Out T.C_Reader r ts (i + n) (mLoop (ts.drop i).length (ts.drop (i + n)) b1) (adv T.C_Reader μ r ts (i + n) b1) (fun c μ' => ∀ ds : List D, ds.length = c + 1 → Q (.lst ds) μ') Ed) (fun R hR => ?_) fun d μ2 hS => ?_
    · (walk_at "dl")
      refine go_unit safe_piece hr hw ho (fun n b1 hw ho d => ?_) fun p m he => ⟨_, sub_refl, he⟩
      intro p hp
      have hpr : p ≠ r := fun e => by subst e; unfold adv at hp; rw [Mu.put_same] at hp; cases hp
      refine hR _ _ ⟨p, d, n, b1, rfl, hpr, ?_, rfl, hw, out_pure ho⟩
      unfold adv at hp
      rw [Mu.put_ne hpr] at hp
      exact hp
    obtain ⟨p, d0, n, b1, rfl, hpr, hp, rfl, hw, ho⟩ := hS
    show xSeq _ _ _ [some (.ptr r), some (.ptr p)] _
    have hpa : ∀ j b2, (adv T.C_Reader μ r ts j b2) p = none := fun j b2 => by unfold adv; rw [Mu.put_ne hpr]; exact hp
    refine stepx (fun ρ' μ2 => ∃ (ds : List D) (j : Nat) (b2 : Option Nat), ρ' = [some (.ptr r), some (.ptr p)] ∧ μ2 = (adv T.C_Reader μ r ts j b2).put p (.lst ds) ∧ Q (.lst ds) (adv T.C_Reader μ r ts j b2)) (fun E' hE' hEx hRt => ?_) fun ρ' μ2 hS => ?_
    · refine ⟨fun m ρ' μ2 => ∃ (j : Nat) (b2 : Option Nat) (ds : List D), ρ' = [some (.ptr r), some (.ptr p)] ∧ μ2 = (adv T.C_Reader μ r ts j b2).put p (.lst ds) ∧ Well (ts.drop j) ∧ (ts.drop j).length ≤ m ∧ ds.length + m ≤ 9003 ∧
        Out T.C_Reader r ts j (mLoop m (ts.drop j) b2) (adv T.C_Reader μ r ts j b2) (fun c μ' => ∀ ds2 : List D, ds2.length = c + ds.length → Q (.lst ds2) μ') Ed, ⟨(ts.drop i).length, i + n, b1, [d0], rfl, rfl, hw, by rw [List.length_drop, List.length_drop]; omega, by rw [List.length_drop]; simp; omega, ho⟩, ?_⟩
      rintro m ρ' μ2 ⟨j, b2, ds, rfl, rfl, hw, hm, hdm, ho⟩
      obtain ⟨tk, ht, e⟩ := hw.at
      have hrr : RD T.C_Reader ((adv T.C_Reader μ r ts j b2).put p (.lst ds)) r ts j b2 := by
        unfold RD adv
        rw [Mu.put_ne (Ne.symm hpr), Mu.put_same]
      obtain ⟨f, rfl⟩ : ∃ f, m = f + 1 := ⟨m - 1, by have := congrArg List.length e; rw [List.length_cons] at this; omega⟩
      have ehe : headEnd (ts.drop j) = isEnd tk := by rw [e]; rfl
      unfold mLoop at ho
      rw [ehe] at ho
      (walk_at "dl")
      refine ⟨r, _, rfl, hrr, nm ts j b2, ts, j, b2, tk, hrr, ht, ?_⟩
      cases hk : isEnd tk with
      | true =>
        rw [hk, if_pos rfl] at ho
        have hk' : (tk.k == Str.ofString "end") = true := hk
        rw [hk']
        refine ⟨true, rfl, ?_⟩
        simp only [Bool.not_true, Bool.false_eq_true, if_false]
        refine hE' _ _ ⟨ds, j, b2, rfl, rfl, ?_⟩
        have ho' : ∀ ds2 : List D, ds2.length = 0 + ds.length → Q (.lst ds2) (adv T.C_Reader (adv T.C_Reader μ r ts j b2) r ts (j + 0) b2) := ho
        rw [adv_adv] at ho'
        exact ho' ds (by omega)
      | false =>
        rw [hk, if_neg (by decide)] at ho
        have hk' : (tk.k == Str.ofString "end") = false := hk
        rw [hk']
        refine ⟨false, rfl, ?_⟩
        simp only [Bool.not_false, if_true]
        have ho := (out_put (o := .lst ds) (hpa j b2) hpr).mpr ho
        refine ⟨r, _, rfl, hrr, nm ts j b2, r, _, rfl, hrr, nm ts j b2, ts, j, b2, tk, hrr, ht, go_sep hrr hw ht ho (fun hw ho => ?_) fun q m he => ?_⟩
        · refine ⟨p, ds, rfl, by rw [adv_put hpr]; exact Mu.put_same, ?_⟩
          refine go_unit safe_piece rd_adv hw ho (fun n b3 hw ho d => ?_) (fun q m he => ?_)
          · rw [adv_adv] at ho ⊢
            rw [adv_put hpr] at ho ⊢
            rw [adv_adv] at ho ⊢
            have ho := out_pure ((out_put (Ed := Ed) (Qa := fun v μ' => ∀ ds2 : List D, ds2.length = v + ds.length → Q (.lst ds2) μ') (hpa _ _) hpr).mp ho)
            have hlen := congrArg List.length e
            rw [List.length_cons] at hlen
            refine ⟨ds, Mu.put_same, sz_small' (by omega), f, by omega, j + 1 + n, b3, ds ++ [d], Mu.put_put, hw, by rw [List.length_drop] at hlen hm ⊢; rw [List.length_drop] at hlen; omega, by rw [List.length_append, List.length_singleton]; omega, ?_⟩
            refine ho.mono (fun v μ' h ds2 h2 => h ds2 ?_) fun _ _ h => h
            rw [List.length_append, List.length_singleton] at h2
            omega
          · rw [hEx]
            exact ⟨_, sub_del, he⟩
        · rw [hEx]
          exact ⟨_, sub_del, he⟩
    obtain ⟨ds, j, b2, rfl, rfl, hq⟩ := hS
    (walk_at "dl")
    refine ⟨p, _, rfl, Mu.put_same, _, sub_refl, ?_⟩
    rw [Mu.put_del (hpa j b2)]
    exact hq
  · exact h.elim
)

theorem ok_parse_news (T : Tx K mg) : FnOk P w K mg base (L2.CX P w) 9 T.a_parse_news T.d_parse_news ["text"] (spX T.C_TextError K C_parse_news) :=
  DL.Fun.okXf (N := ["text", "tokens", "reader", "news"]) T.F_parse_news sc_parse_news (fun cdv A outer s H E hr => 
      (ssx_cons (sx_set 1 sc_parse_news.nd (xe_call (ok_scan T) (hr.mono (by decide)) (by rfl) T.m_scan T.k_scan T.v_scan (passes_call (takes_of rfl rfl rfl rfl) fun _ _ _ _ h => h) (xa_cons (xe_of (dv 0)) xa_nil))) 
      (ssx_cons (sx_of (ds_set 2 sc_parse_news.nd (de_make T.mk_Reader (ok_Reader___init__ T) (hr.mono (by decide)) (by rfl) T.mC_Reader T.v_Reader___init__ pass0 (da_cons (dv 1) da_nil)))) 
      (ssx_cons (sx_set 3 sc_parse_news.nd (xe_call (ok_read_pieces T) (hr.mono (by decide)) (by rfl) T.m_read_pieces T.k_read_pieces T.v_read_pieces (passes_call (takes_of rfl rfl rfl rfl) fun _ _ _ _ h => h) (xa_cons (xe_of (dv 2)) xa_nil))) 
      (ssx_cons (sx_if (dt_cmp op_notN od_notN (de_fld T.cl_Reader T.na_Reader_beyond (dv 2)) de_non (nomark _)) 
      (ssx_one (sx_raise T.etx (ok_ini T) T.vI (hr.mono (by decide)) rfl (takes_of rfl rfl rfl rfl) (da_cons (de_fld T.cl_Reader T.na_Reader_beyond (dv 2)) (da_cons (de_str) da_nil)))) ssx_nil) 
      (ssx_cons (sx_if (dt_cmp op_gtD od_gt (de_B L2.call_len cd_len (by rfl) T.b_len (by decide +kernel) (da_cons (dv 3) da_nil)) (de_globI rfl T.g_MOST_PIECES) (nomark _)) 
      (ssx_one (sx_raise T.etx (ok_ini T) T.vI (hr.mono (by decide)) rfl (takes_of rfl rfl rfl rfl) (da_cons (de_ix ix_seq od_ix (de_ix ix_seq od_ix (dv 1) de_int (fun _ _ => rfl)) de_int (fun _ _ => rfl)) (da_cons (de_str) da_nil)))) ssx_nil) 
      (ssx_one (sx_of (ds_ret (dv 3))))))))))
    (by intro ds μ Q Ed h; unfold C_parse_news at h; (try unfold rdU at h); split at h <;> first | rfl | exact h.elim) (by
  intro ds μ Q Ed h
  unfold C_parse_news at h
  split at h
  · rename_i ds' t
    obtain ⟨hl, ts, r, hsc, hq⟩ := h
    refine stepx_setX (fun d μ' => d = .lst (ts.map eTk) ∧ μ = μ' ∧ r = none) (fun R hR => ?_) fun d μ' hS => ?_
    · (walk_at "dl")
      refine ⟨hl, ts, r, hsc, ?_⟩
      cases r with
      | none => exact hR _ _ ⟨rfl, rfl, rfl⟩
      | some q => exact ⟨μ, sub_refl, hq⟩
    obtain ⟨rfl, rfl, rfl⟩ := hS
    obtain ⟨hw, hl2, hq⟩ := hq
    show xSeq _ _ _ [some (.str t), some (.lst (ts.map eTk)), none, none] _
    refine stepx_set (fun d μ' => ∃ r, d = .ptr r ∧ μ r = none ∧ μ' = adv T.C_Reader μ r ts 0 none) (fun R hR => ?_) fun d μ' hS => ?_
    · (walk_at "dl")
      intro r hr
      refine ⟨ts, rfl, Mu.put_same, rfl, ?_⟩
      refine hR _ _ ⟨r, rfl, hr, ?_⟩
      unfold adv
      rw [Mu.put_put]
    obtain ⟨r, rfl, hr, rfl⟩ := hS
    have hdel : ∀ i b, (adv T.C_Reader μ r ts i b).del r = μ := fun i b => by unfold adv; exact Mu.put_del hr
    show xSeq _ _ _ [some (.str t), some (.lst (ts.map eTk)), some (.ptr r), none] _
    cases hm : mPieces ts none with
    | er p m =>
      rw [hm] at hq
      have hq : Ed p m μ := hq
      refine stepx_setX (fun d μ' => False) (fun R hR => ?_) fun d μ' hS => hS.elim
      (walk_at "dl")
      refine ⟨ts, 0, none, rd_adv, hw, hl2, ?_⟩
      rw [List.drop_zero, hm]
      refine ⟨_, sub_refl, ?_⟩
      rw [hdel]
      exact hq
    | ok c n b =>
      rw [hm] at hq
      refine stepx_setX (fun d μ' => ∃ ds : List D, ds.length = c ∧ d = .lst ds ∧ μ' = adv T.C_Reader μ r ts n b) (fun R hR => ?_) fun d μ' hS => ?_
      · (walk_at "dl")
        refine ⟨ts, 0, none, rd_adv, hw, hl2, ?_⟩
        rw [List.drop_zero, hm]
        intro ds hds
        refine hR _ _ ⟨ds, hds, rfl, ?_⟩
        rw [adv_adv, Nat.zero_add]
      obtain ⟨ds, hds, rfl, rfl⟩ := hS
      show xSeq _ _ _ [some (.str t), some (.lst (ts.map eTk)), some (.ptr r), some (.lst ds)] _
      have hr2 : adv T.C_Reader μ r ts n b r = some (.ins T.C_Reader (flds ts n b)) := Mu.put_same
      have hsub : DL.Sub μ (adv T.C_Reader μ r ts n b) := Sub.put hr
      (walk_at "dl")
      simp only [fld_at hr2 (l_beyond ts n b)]
      cases b with
      | some p =>
        unfold bD
        (walk_at "dl")
        exact ⟨_, _, rfl, μ, hsub, hq⟩
      | none =>
        unfold bD
        (walk_at "dl")
        have hq : if 40 < c then (∃ tk, ts[0]? = some tk ∧ Ed tk.p "too many pieces" μ) else ∀ ds : List D, Q (.lst ds) μ := hq
        by_cases hc : 40 < c
        · rw [if_pos hc] at hq
          rw [if_pos (by omega)]
          obtain ⟨tk, ht, hq⟩ := hq
          have h0 := tk_at ht
          refine ⟨_, h0, ?_⟩
          unfold eTk
          (walk_at "dl")
          exact ⟨_, _, rfl, μ, hsub, hq⟩
        · rw [if_neg hc] at hq
          rw [if_neg (by omega)]
          exact ⟨μ, hsub, hq ds⟩
  · exact h.elim
)
end
end K42
end

-- part EN
section
namespace K42
open PySem L2 DL PySem.NumText
def numS (i : Int) : Str := Str.ofString (toString i)
theorem nn_digits (m : Nat) : (numS (m : Int)).cps.toList = (Nat.toDigits 10 m).map Char.toNat := PySem.W.KIN.signs_num m
theorem dig_all (m : Nat) : AllDigits ((Nat.toDigits 10 m).map Char.toNat) := by
  intro c hc
  obtain ⟨ch, hch, e⟩ := List.mem_map.mp hc
  rw [← e]
  exact PyProof.Rows.digit_range (Nat.isDigit_of_mem_toDigits (by decide) (by decide) hch)
theorem dig_ne (m : Nat) : (Nat.toDigits 10 m).map Char.toNat ≠ [] := by
  intro e
  have h := toDigits_len_ge 10 m
  rw [List.map_eq_nil_iff.mp e] at h
  exact absurd h (by decide)
theorem dig_len {m : Nat} (h : m ≤ 10000000) : ((Nat.toDigits 10 m).map Char.toNat).length ≤ 8 := by
  have h1 : (numS (m : Int)).length ≤ 8   := PyProof.Rows.toString_length_le (by omega) (by decide) (by omega : (m : Int) < 10 ^ 8)
  rw [← nn_digits, Array.length_toList]
  exact h1
theorem neg_digits (m : Nat) : (numS (-((m + 1 : Nat) : Int))).cps.toList = 45 :: (Nat.toDigits 10 (m + 1)).map Char.toNat := by
  unfold numS
  rw [PyProof.Rows.signs_ofString]
  show ((Int.negSucc m).repr).toList.map Char.toNat = _
  show (("-" ++ Nat.repr (m + 1)) : String).toList.map Char.toNat = _
  rw [String.toList_append, List.map_append, Nat.toList_repr]
  rfl
theorem num_T {i : Int} (h : -10000000 ≤ i ∧ i ≤ 10000000) : NumT (numS i).cps.toList ∧ numV (numS i).cps.toList = i ∧ (numS i).cps.toList.length ≤ 9 := by
  have dw : ∀ l : List Nat, (l.dropWhile (· == 48)).length ≤ l.length := fun l => (List.dropWhile_suffix _).length_le
  by_cases h0 : 0 ≤ i
  · obtain ⟨m, rfl⟩ := Int.eq_ofNat_of_zero_le h0
    have hl := dig_len (m := m) (by omega)
    refine ⟨⟨false, (Nat.toDigits 10 m).map Char.toNat, nn_digits m, dig_all m, dig_ne m, Nat.le_trans (dw _) hl, by omega⟩, ?_, by rw [nn_digits]; omega⟩
    rw [numV_of (neg := false) (nn_digits m) (dig_all m) (dig_ne m), if_neg (by decide), PySem.W.KIN.val_back]
  · obtain ⟨m, hm⟩ := Int.eq_ofNat_of_zero_le (a := -i - 1) (by omega)
    have e : i = -((m + 1 : Nat) : Int) := by omega
    subst e
    have hl := dig_len (m := m + 1) (by omega)
    refine ⟨⟨true, (Nat.toDigits 10 (m + 1)).map Char.toNat, neg_digits m, dig_all _, dig_ne _, Nat.le_trans (dw _) hl, by omega⟩, ?_, by rw [neg_digits, List.length_cons]; omega⟩
    rw [numV_of (neg := true) (neg_digits m) (dig_all _) (dig_ne _), if_pos rfl, PySem.W.KIN.val_back]
theorem NumT.sig {t : List Nat} (h : NumT t) : ∀ c ∈ t, c = 45 ∨ 48 ≤ c ∧ c ≤ 57 := by
  obtain ⟨neg, ds, rfl, h2, h3, h4, h5⟩ := h
  intro c hc
  rcases List.mem_append.mp hc with hc | hc
  · split at hc <;> simp at hc
    exact .inl hc
  · exact .inr (h2 c hc)
theorem sok_str {s : Str} (h : ∀ c ∈ s.cps.toList, c < 128) (hl : s.length ≤ 10000) : SOk s := by
  have h1 := sok_list h (by rw [Array.length_toList]; exact hl)
  exact h1
theorem num_sok {i : Int} (h : -10000000 ≤ i ∧ i ≤ 10000000) : i.natAbs.log2 < 1920 ∧ SOk (numS i) ∧ (numS i).length ≤ 9 := by
  have hn := num_T h
  have hl : (numS i).length ≤ 9 := by have h1 := hn.2.2; rw [Array.length_toList] at h1; exact h1
  refine ⟨?_, sok_str (fun c hc => by have := hn.1.sig c hc; omega) (by omega), hl⟩
  have : i.natAbs < 2 ^ 1920 := Nat.lt_of_le_of_lt (by omega : i.natAbs ≤ 2 ^ 24) (Nat.pow_lt_pow_right (by decide) (by decide))
  by_cases h0 : i.natAbs = 0
  · rw [h0]; decide
  · exact (Nat.log2_lt h0).mpr this
end K42
end

-- part E6
section
local macro_rules | `(tactic| walk_at "dl") => `(tactic| simp only [DL.sRet, DL.dJoined, DL.dJs, DL.dFmt, DL.dFld, DL.dMeth, DL.dMake, DL.sFld, DL.sFldI, DL.sSeq, DL.sSet, DL.sIf, DL.sNext, DL.sNever, DL.sDrop, DL.sAsg, DL.sRetN, DL.dVar, DL.dC, DL.dOp, DL.dTest, DL.dAnd, DL.dOr, DL.dNot, DL.dTru, DL.dAndV, DL.dOrV, DL.dNotV, DL.dIf, DL.aNil, DL.aCons, DL.dTup, DL.dLst, DL.dLstM, DL.dCall, DL.dFrz, DL.dB, DL.dNeg, DL.dSl, DL.oNone, DL.oSome, DL.dChn, DL.gN, DL.gT, DL.setAll, DL.fOf, DL.aNilX, DL.aConsX, DL.dTupX, DL.dLstMX, DL.dCallX, DL.dCallN, DL.dMethX, DL.xOf, DL.xNext, DL.xSeq, DL.xDrop, DL.xRet, DL.xIf, DL.xSet, DL.xFrz, DL.xApp, DL.xRaise, DL.dWix, DL.dWget, DL.optS,
  DL.ix_l, DL.ix_t, DL.ix_s, DL.ix_p, DL.add_i, DL.add_s, DL.add_l, DL.add_t, DL.mul_i, DL.mul_b, DL.sub_i, DL.fdiv_i, DL.mod_i, DL.pow_i, DL.shl_i, DL.shr_i, DL.and_i, DL.lt_i, DL.le_i, DL.gt_i, DL.ge_i, DL.le_s, DL.in_t, DL.in_l, DL.in_s, DL.len_l, DL.len_t, DL.len_s, DL.len_p, DL.list_l, DL.list_t, DL.list_s, DL.list_p, DL.tuple_l, DL.tuple_t, DL.int_i, DL.int_b, DL.abs_i, DL.max_i, DL.min_i, DL.all_l, DL.any_l, DL.isi_1, DL.isi_n, DL.sl_l, DL.sl_t, DL.sl_s, DL.neg_i, DL.isN_i, DL.notN_i, DL.eq_x, DL.ne_x,
  DL.w_wrote_many, DL.w_wrote_many_b, DL.w_wrote_among, DL.w_wrote_among_b, DL.w_wrote_did, DL.w_wrote_did_b, DL.w_wrote_times, DL.w_wrote_times_b, DL.w_wrote_value, DL.w_wrote_value_b, DL.w_wrote_head, DL.w_wrote_head_b, DL.w_many_wrote, DL.w_many_wrote_b, DL.w_many_among, DL.w_many_among_b, DL.w_many_did, DL.w_many_did_b, DL.w_many_times, DL.w_many_times_b, DL.w_many_value, DL.w_many_value_b, DL.w_many_head, DL.w_many_head_b, DL.w_among_wrote, DL.w_among_wrote_b, DL.w_among_many, DL.w_among_many_b, DL.w_among_did, DL.w_among_did_b, DL.w_among_times, DL.w_among_times_b, DL.w_among_value, DL.w_among_value_b, DL.w_among_head, DL.w_among_head_b, DL.w_did_wrote, DL.w_did_wrote_b, DL.w_did_many, DL.w_did_many_b, DL.w_did_among, DL.w_did_among_b, DL.w_did_times, DL.w_did_times_b, DL.w_did_value, DL.w_did_value_b, DL.w_did_head, DL.w_did_head_b, DL.w_times_wrote, DL.w_times_wrote_b, DL.w_times_many, DL.w_times_many_b, DL.w_times_among, DL.w_times_among_b, DL.w_times_did, DL.w_times_did_b, DL.w_times_value, DL.w_times_value_b, DL.w_times_head, DL.w_times_head_b, DL.w_value_wrote, DL.w_value_wrote_b, DL.w_value_many, DL.w_value_many_b, DL.w_value_among, DL.w_value_among_b, DL.w_value_did, DL.w_value_did_b, DL.w_value_times, DL.w_value_times_b, DL.w_value_head, DL.w_value_head_b, DL.w_head_wrote, DL.w_head_wrote_b, DL.w_head_many, DL.w_head_many_b, DL.w_head_among, DL.w_head_among_b, DL.w_head_did, DL.w_head_did_b, DL.w_head_times, DL.w_head_times_b, DL.w_head_value, DL.w_head_value_b,
  DL.q_ss, DL.q_ii, DL.q_bb, DL.q_nn, DL.q_tt, DL.q_ll, DL.q_si, DL.q_sn, DL.q_st, DL.q_sl, DL.q_is, DL.q_in, DL.q_it, DL.q_il, DL.q_ns, DL.q_ni, DL.q_nt, DL.q_nl, DL.q_ts, DL.q_ti, DL.q_tn, DL.q_tl, DL.q_ls, DL.q_li, DL.q_ln, DL.q_lt, DL.qs_nil, DL.qs_cons, DL.qs_nc, DL.qs_cn, DL.p_t16, DL.p_l16, DL.p_t15, DL.p_l15, DL.p_t14, DL.p_l14, DL.p_t13, DL.p_l13, DL.p_t12, DL.p_l12, DL.p_s, DL.p_i, DL.p_b, DL.p_n, DL.ps_nil, DL.ps_cons, DL.t_b, DL.t_i, DL.t_l, DL.t_t, DL.t_n, DL.n_n, DL.n_i, DL.n_s, DL.n_t, DL.n_l, DL.n_b, DL.f_s, DL.f_i,
  Bool.false_and, Bool.and_false, DL.z0, DL.z1, DL.z2, DL.z3, DL.z4, DL.z5, DL.z6, DL.z12,
  DL.startD, DL.sFrz, DL.sApp, DL.yesD, DL.lcTurn, DL.wipeE, DL.at0, DL.at1, DL.at2, DL.at3, DL.at4, List.map_cons, List.map_nil, List.replicate_succ, List.replicate_zero, List.length_cons, List.length_nil, List.cons_append, List.nil_append, List.set_cons_zero, List.set_cons_succ, List.getElem?_cons_zero, List.getElem?_cons_succ, Option.some.injEq, exists_eq_left, exists_eq_left', exists_eq', exists_eq, true_and, and_true, decide_eq_true_eq, if_true, if_false, Bool.false_eq_true, reduceIte, Nat.reduceAdd, Nat.reduceSub, DL.D.bl.injEq, DL.D.int.injEq, DL.D.str.injEq, DL.D.tup.injEq, DL.D.lst.injEq, DL.D.ptr.injEq, Bool.not_true, Bool.not_false, beq_self_eq_true, List.all_cons, List.all_nil, List.any_cons, List.any_nil, Bool.and_true, Bool.true_and, Bool.or_false, Bool.false_or, Bool.or_true, Bool.true_or, Bool.false_xor, Bool.true_xor, beq_iff_eq, Bool.not_eq_true, Int.reduceEq, Int.reduceBEq, and_self])

namespace K42
open PySem L2 DL
theorem call_strF {X : Cx} {C S fI fS a : Addr} {oe : Obj} {cls : Value} {d : Option Addr} {pn : List (Addr × Obj)} {mg : Str → Option Value} {x q : Str} {st : Stmt} {fd : FuncData} (T : ETx X.K mg C S fI fS) (F : L2.Fun X.K x q st fS fd) (SC : FnScope ["self"] ["self"] (defScope st))
    (hvis : (defScope st).names.lookup ("self" : Str) = some NameKind.local) (hbd : ∃ p1 p2 p3 p4 p5 p6 p7 p8 p9 p0 j, defBody st = strB p1 p2 p3 p4 p5 p6 p7 p8 p9 p0 j) (hb : Binds X.K fd ["self"] []) (hr : Room 2 X.A) (hz : Zc cls d oe) (hf : ∃ vs, oe.data = .fields vs) :
    CallR (X.suite a ((a, oe) :: pn)) (.type "str") (rStrX C a cls d) := by
  obtain ⟨oc, od, kV, doc, pm, an, cdv, ct, osl, rfl, lk, hcd⟩ := F.ex
  exact call_strX T lk hcd SC hvis hbd hb hr hz hf
def outOf (ts : List Tk) : Option Nat → Str × Nat
  | some q => ("unknown character", q)
  | none => match mPieces ts none with
    | .er p m => (m, p)
    | .ok _ _ (some p) => ("number out of range", p)
    | .ok c _ none => if 40 < c then ("too many pieces", (ts.getD 0 ⟨⟨#[]⟩, [], 0⟩).p) else ("news", 0)
def C__law_asked : CT := fun ds μ Q => match ds with
  | [.str t] => t.length ≤ 9000 ∧ ∃ ts r, Scn false 0 t.cps.toList ts r ∧ (r = none → Well ts ∧ ts.length ≤ 9001) ∧ SOk (outOf ts r).1 ∧ (outOf ts r).1.length ≤ 100 ∧ (outOf ts r).2 ≤ 10000 ∧ Q (.tup [.str (outOf ts r).1, .int (outOf ts r).2]) μ
  | _ => False
theorem str_body : ∃ p1 p2 p3 p4 p5 p6 p7 p8 p9 p0 j, defBody s_TextError___str__ = strB p1 p2 p3 p4 p5 p6 p7 p8 p9 p0 j := ⟨_, _, _, _, _, _, _, _, _, ⟨0, 0, 0, 0⟩, _, rfl⟩
theorem asked_mono {t : Str} {μ : Mu} {Q : D → Mu → Prop} {Ed Ed' : XD} (h : C_parse_news [.str t] μ Q Ed) (he : ∀ q m μ', Ed q m μ' → Ed' q m μ') : C_parse_news [.str t] μ Q Ed' := by
  obtain ⟨hl, ts, r, hsc, hq⟩ := h
  refine ⟨hl, ts, r, hsc, ?_⟩
  cases r with
  | some q => exact he _ _ _ hq
  | none =>
    obtain ⟨h1, h2, hq⟩ := hq
    refine ⟨h1, h2, ?_⟩
    cases hm : mPieces ts none with
    | er p m => rw [hm] at hq; exact he _ _ _ hq
    | ok c n b =>
      rw [hm] at hq
      cases b with
      | some p => exact he _ _ _ hq
      | none =>
        simp only at hq ⊢
        split at hq
        · rename_i hc
          rw [if_pos hc]
          obtain ⟨tk, e, hq⟩ := hq
          exact ⟨tk, e, he _ _ _ hq⟩
        · rename_i hc
          rw [if_neg hc]
          exact hq
section
variable {P : Program} {w : World} {K : PySem.W.Frag} {mg : Str → Option Value} {base : Heap}
theorem ok__law_asked (T : Tx K mg) : FnOk P w K mg base CX0 10 T.a__law_asked T.d__law_asked ["text"] (spD K C__law_asked) :=
  DL.Fun.okD (N := ["text", "found", "right", "error"]) T.F__law_asked sc__law_asked (fun cdv A outer s H E hr =>
    (dss_one (ds_try T.etx (ok_parse_news T) (hr.mono (by decide)) (by rfl) T.m_parse_news T.k_parse_news T.v_parse_news sc__law_asked.nd (i := 1) (j := 3) (fun pn xe => da_cons (dv 0) da_nil)
      (fun pn xe => dss_one (ds_ret (de_tup (da_cons (de_if (dt_tru (de_B call_isiD cd_isi (by rfl) T.b_isinstance (by decide +kernel) (da_cons (dv 1) (da_cons (de_ty (n := "list") (by rfl) T.b_list (by decide +kernel)) da_nil)))) (de_str) (de_str)) (da_cons de_int da_nil)))))
      (fun a oe cls d pn hz hf => dss_cons (ds_set 2 sc__law_asked.nd (de_and (de_B (call_isX T.etx hz hf) (cd_isX T.etx) (by rfl) T.b_isinstance (by decide +kernel) (da_cons (dv 3) (da_cons (de_globC (by rfl) T.etx.gS) da_nil)))
          (de_one (de_cmp (op_eqD (by exact hr.units)) od_eq (de_T (call_strF T.etx T.F_S sc_TextError___str__ (by rfl) str_body T.vS (hr.mono (by decide)) hz hf) cd_strX (by rfl) T.b_str (by decide +kernel) (da_cons (dv 3) da_nil))
            (de_op op_addD od_add (de_op op_addD od_add (de_xm T.etx.xf T.etx.nM hz hf (dv 3)) (de_str)) (de_T call_strIS cd_str (by rfl) T.b_str (by decide +kernel) (da_cons (de_xp T.etx.xf T.etx.nP hz hf (dv 3)) da_nil))) (nomark _)))))
        (dss_one (ds_ret (de_tup (da_cons (de_if (dt_tru (dv 2)) (de_xm T.etx.xf T.etx.nM hz hf (dv 3)) (de_str)) (da_cons (de_xp T.etx.xf T.etx.nP hz hf (dv 3)) da_nil)))))))))
    (by intro ds μ Q h; unfold C__law_asked at h; split at h <;> first | rfl | exact h.elim) (by
  intro ds μ Q h
  unfold C__law_asked at h
  split at h
  · rename_i ds' t
    obtain ⟨hl, ts, r, hsc, hw, so, h100, hp, hq⟩ := h
    unfold sTry
    (walk_at "dl")
    refine asked_mono (Ed := fun q m μ' => μ' = μ ∧ q = ((outOf ts r).2 : Nat) ∧ m = (outOf ts r).1) ?_ fun q m μ' ⟨e1, e2, e3⟩ a dd => ?_
    · refine ⟨hl, ts, r, hsc, ?_⟩
      cases r with
      | some q => exact ⟨rfl, rfl, rfl⟩
      | none =>
        obtain ⟨hw1, hw2⟩ := hw rfl
        refine ⟨hw1, hw2, ?_⟩
        unfold outOf at hq ⊢
        cases hm : mPieces ts none with
        | er p m => rw [hm] at hq; exact ⟨rfl, rfl, rfl⟩
        | ok c n b =>
          rw [hm] at hq
          cases b with
          | some p => exact ⟨rfl, rfl, rfl⟩
          | none =>
            simp only at hq ⊢
            by_cases hc : 40 < c
            · simp only [hc, if_true]
              obtain ⟨tk, rr, e⟩ := hw1.ne
              refine ⟨tk, by rw [e]; rfl, trivial, ?_, trivial⟩
              rw [e]; rfl
            · simp only [hc, if_false] at hq ⊢
              intro ds
              refine ⟨_, rfl, by decide, ?_⟩
              rw [if_pos (by decide)]
              exact hq
    · subst e1; subst e3; subst e2
      generalize (outOf ts r).1 = m at so h100 hq
      generalize (outOf ts r).2 = q at hp hq
      obtain ⟨hn, ht2, ht1⟩ := num_sok (i := (q : Int)) (by omega)
      have ht : (toString (q : Int) : Str).length ≤ 100 ∧ SOk (toString (q : Int) : Str) := ⟨Nat.le_trans ht1 (by decide), ht2⟩
      have e0 : (Str.empty ++ m : Str) = m := by
        obtain ⟨mc⟩ := m
        exact congrArg Str.mk (Array.empty_append)
      have hat : (" at " : Str).length = 4 := rfl
      have l1 : (m ++ (" at " : Str)).length ≤ 104 := by rw [str_len_add]; omega
      have so1 : SOk (m ++ (" at " : Str)) := sok_add so (by decide +kernel) (by rw [hat]; exact sz_small (by omega))
      have so2 : SOk ((m ++ (" at " : Str)) ++ (toString (q : Int) : Str)) := sok_add so1 ht.2 (sz_small (by omega))
      have hth := ht.1
      refine ⟨rfl, rfl, rfl, rfl, true, rfl, ?_⟩
      rw [if_pos rfl]
      refine ⟨rfl, rfl, rfl, by omega, hn, by omega, by rw [e0]; exact so2, ?_⟩
      rw [e0]
      refine ⟨_, rfl, dd, (q : Int), m, rfl, rfl, rfl, ?_⟩
      refine ⟨by rw [hat]; exact sz_small (by omega), ?_⟩
      refine ⟨_, rfl, dd, (q : Int), m, rfl, rfl, rfl, hn, ht.2, ?_⟩
      refine ⟨sz_small (by omega), p_s, p_s, ?_⟩
      rw [q_ss, if_pos (by simp)]
      refine ⟨_, rfl, dd, (q : Int), m, rfl, rfl, rfl, ?_⟩
      exact ⟨_, rfl, dd, (q : Int), m, rfl, rfl, rfl, hq⟩
  · exact h.elim)
end
end K42
end

-- part E7
section
local macro_rules | `(tactic| walk_at "dl") => `(tactic| simp only [DL.sRet, DL.dJoined, DL.dJs, DL.dFmt, DL.dFld, DL.dMeth, DL.dMake, DL.sFld, DL.sFldI, DL.sSeq, DL.sSet, DL.sIf, DL.sNext, DL.sNever, DL.sDrop, DL.sAsg, DL.sRetN, DL.dVar, DL.dC, DL.dOp, DL.dTest, DL.dAnd, DL.dOr, DL.dNot, DL.dTru, DL.dAndV, DL.dOrV, DL.dNotV, DL.dIf, DL.aNil, DL.aCons, DL.dTup, DL.dLst, DL.dLstM, DL.dCall, DL.dFrz, DL.dB, DL.dNeg, DL.dSl, DL.oNone, DL.oSome, DL.dChn, DL.gN, DL.gT, DL.setAll, DL.fOf, DL.aNilX, DL.aConsX, DL.dTupX, DL.dLstMX, DL.dCallX, DL.dCallN, DL.dMethX, DL.xOf, DL.xNext, DL.xSeq, DL.xDrop, DL.xRet, DL.xIf, DL.xSet, DL.xFrz, DL.xApp, DL.xRaise, DL.dWix, DL.dWget, DL.optS,
  DL.ix_l, DL.ix_t, DL.ix_s, DL.ix_p, DL.add_i, DL.add_s, DL.add_l, DL.add_t, DL.mul_i, DL.mul_b, DL.sub_i, DL.fdiv_i, DL.mod_i, DL.pow_i, DL.shl_i, DL.shr_i, DL.and_i, DL.lt_i, DL.le_i, DL.gt_i, DL.ge_i, DL.le_s, DL.in_t, DL.in_l, DL.in_s, DL.len_l, DL.len_t, DL.len_s, DL.len_p, DL.list_l, DL.list_t, DL.list_s, DL.list_p, DL.tuple_l, DL.tuple_t, DL.int_i, DL.int_b, DL.abs_i, DL.max_i, DL.min_i, DL.all_l, DL.any_l, DL.isi_1, DL.isi_n, DL.sl_l, DL.sl_t, DL.sl_s, DL.neg_i, DL.isN_i, DL.notN_i, DL.eq_x, DL.ne_x,
  DL.w_wrote_many, DL.w_wrote_many_b, DL.w_wrote_among, DL.w_wrote_among_b, DL.w_wrote_did, DL.w_wrote_did_b, DL.w_wrote_times, DL.w_wrote_times_b, DL.w_wrote_value, DL.w_wrote_value_b, DL.w_wrote_head, DL.w_wrote_head_b, DL.w_many_wrote, DL.w_many_wrote_b, DL.w_many_among, DL.w_many_among_b, DL.w_many_did, DL.w_many_did_b, DL.w_many_times, DL.w_many_times_b, DL.w_many_value, DL.w_many_value_b, DL.w_many_head, DL.w_many_head_b, DL.w_among_wrote, DL.w_among_wrote_b, DL.w_among_many, DL.w_among_many_b, DL.w_among_did, DL.w_among_did_b, DL.w_among_times, DL.w_among_times_b, DL.w_among_value, DL.w_among_value_b, DL.w_among_head, DL.w_among_head_b, DL.w_did_wrote, DL.w_did_wrote_b, DL.w_did_many, DL.w_did_many_b, DL.w_did_among, DL.w_did_among_b, DL.w_did_times, DL.w_did_times_b, DL.w_did_value, DL.w_did_value_b, DL.w_did_head, DL.w_did_head_b, DL.w_times_wrote, DL.w_times_wrote_b, DL.w_times_many, DL.w_times_many_b, DL.w_times_among, DL.w_times_among_b, DL.w_times_did, DL.w_times_did_b, DL.w_times_value, DL.w_times_value_b, DL.w_times_head, DL.w_times_head_b, DL.w_value_wrote, DL.w_value_wrote_b, DL.w_value_many, DL.w_value_many_b, DL.w_value_among, DL.w_value_among_b, DL.w_value_did, DL.w_value_did_b, DL.w_value_times, DL.w_value_times_b, DL.w_value_head, DL.w_value_head_b, DL.w_head_wrote, DL.w_head_wrote_b, DL.w_head_many, DL.w_head_many_b, DL.w_head_among, DL.w_head_among_b, DL.w_head_did, DL.w_head_did_b, DL.w_head_times, DL.w_head_times_b, DL.w_head_value, DL.w_head_value_b,
  DL.q_ss, DL.q_ii, DL.q_bb, DL.q_nn, DL.q_tt, DL.q_ll, DL.q_si, DL.q_sn, DL.q_st, DL.q_sl, DL.q_is, DL.q_in, DL.q_it, DL.q_il, DL.q_ns, DL.q_ni, DL.q_nt, DL.q_nl, DL.q_ts, DL.q_ti, DL.q_tn, DL.q_tl, DL.q_ls, DL.q_li, DL.q_ln, DL.q_lt, DL.qs_nil, DL.qs_cons, DL.qs_nc, DL.qs_cn, DL.p_t16, DL.p_l16, DL.p_t15, DL.p_l15, DL.p_t14, DL.p_l14, DL.p_t13, DL.p_l13, DL.p_t12, DL.p_l12, DL.p_s, DL.p_i, DL.p_b, DL.p_n, DL.ps_nil, DL.ps_cons, DL.t_b, DL.t_i, DL.t_l, DL.t_t, DL.t_n, DL.n_n, DL.n_i, DL.n_s, DL.n_t, DL.n_l, DL.n_b, DL.f_s, DL.f_i,
  Bool.false_and, Bool.and_false, DL.z0, DL.z1, DL.z2, DL.z3, DL.z4, DL.z5, DL.z6, DL.z12,
  DL.startD, DL.sFrz, DL.sApp, DL.yesD, DL.lcTurn, DL.wipeE, DL.at0, DL.at1, DL.at2, DL.at3, DL.at4, List.map_cons, List.map_nil, List.replicate_succ, List.replicate_zero, List.length_cons, List.length_nil, List.cons_append, List.nil_append, List.set_cons_zero, List.set_cons_succ, List.getElem?_cons_zero, List.getElem?_cons_succ, Option.some.injEq, exists_eq_left, exists_eq_left', exists_eq', exists_eq, true_and, and_true, decide_eq_true_eq, if_true, if_false, Bool.false_eq_true, reduceIte, Nat.reduceAdd, Nat.reduceSub, DL.D.bl.injEq, DL.D.int.injEq, DL.D.str.injEq, DL.D.tup.injEq, DL.D.lst.injEq, DL.D.ptr.injEq, Bool.not_true, Bool.not_false, beq_self_eq_true, List.all_cons, List.all_nil, List.any_cons, List.any_nil, Bool.and_true, Bool.true_and, Bool.or_false, Bool.false_or, Bool.or_true, Bool.true_or, Bool.false_xor, Bool.true_xor, beq_iff_eq, Bool.not_eq_true, Int.reduceEq, Int.reduceBEq, and_self])

namespace K42
open PySem L2 DL
inductive Pc where
  | wrote (v : Int) (ks : List Str) | many (v n : Int) | among (v : Int) (ks : List Str) | did (v : Int) (k : Str) | times (k : Str) (v n : Int) | value (k : Str) (n x : Int) | head (v : Int)
  deriving DecidableEq
def eKeys (ks : List Str) : D := .tup (ks.map .str)
def ePc : Pc → D
  | .wrote v ks => .tup [.str "wrote", .int v, eKeys ks]
  | .many v n => .tup [.str "many", .int v, .int n]
  | .among v ks => .tup [.str "among", .int v, eKeys ks]
  | .did v k => .tup [.str "did", .int v, .str k]
  | .times k v n => .tup [.str "times", .str k, .int v, .int n]
  | .value k n x => .tup [.str "value", .str k, .int n, .int x]
  | .head v => .tup [.str "head", .int v]
def eNews (ns : List Pc) : D := .lst (ns.map ePc)
def okKey (k : Str) : Prop := k.cps.toList ≠ [] ∧ (∀ c ∈ k.cps.toList, isL c = true) ∧ k.length ≤ 8
def okKeys (ks : List Str) : Prop := ks ≠ [] ∧ ks.length ≤ 5 ∧ SortedS ks ∧ ∀ k ∈ ks, okKey k
def okP : Pc → Prop
  | .wrote v ks => (1 ≤ v ∧ v ≤ 20) ∧ okKeys ks
  | .among v ks => (1 ≤ v ∧ v ≤ 20) ∧ okKeys ks
  | .many v n => (1 ≤ v ∧ v ≤ 20) ∧ 1 ≤ n ∧ n ≤ 20
  | .did v k => (1 ≤ v ∧ v ≤ 20) ∧ okKey k
  | .times k v n => (0 ≤ v ∧ v ≤ 20) ∧ okKey k ∧ 0 ≤ n ∧ n ≤ 20
  | .value k n x => (1 ≤ n ∧ n ≤ 20) ∧ okKey k ∧ -1000000 ≤ x ∧ x ≤ 1000000
  | .head v => 0 ≤ v ∧ v ≤ 20
def shelves : List (List Str) := [["a"], ["a", "b"], ["a", "ab"], ["a", "ab", "b"], ["b"]]
theorem set_n3 {a b c d x : D} : ([a, b, c, d] : List D).set 3 x = [a, b, c, x] := rfl
theorem atG {α : Type} (d : α) {l : List α} {i : Int} (h0 : 0 ≤ i) (h1 : i < l.length) : atI l i = some (l.getD i.toNat d) := by
  obtain ⟨x, h2, h3⟩ := atI_in h0 h1
  rw [h2, List.getD_eq_getElem?_getD, h3]
  rfl
def fK (tb : List (List Str)) (k : Str) (i : Nat) : Option D := if k ∈ tb.getD i [] then some (D.int (0 + (i : Nat))) else none
def mkC (sk : List Str) (m : Nat) : List Str := (List.range sk.length).filterMap fun k => if Builtin.bitAnd ((1 + (m : Int)) / 2 ^ k) 1 ≠ 0 then some (sk.getD k ⟨#[]⟩) else none
def allC (sk : List Str) : List (List Str) := (List.range ((1 * 2 ^ (sk.length : Int).toNat - 1 : Int)).toNat).map (mkC sk)
theorem allC_ok : ∀ sk ∈ shelves, allC sk ≠ [] ∧ (allC sk).length ≤ 7 ∧ ∀ c ∈ allC sk, c ≠ [] ∧ c.Sublist sk := by decide +kernel
theorem shelf3 : ∀ sk ∈ shelves, sk.length ≤ 3 := by decide +kernel
theorem shelfN : ∀ sk ∈ shelves, sk ≠ [] := by decide +kernel
instance (sk : List Str) : Decidable (SortedS sk) := by unfold SortedS; infer_instance
instance (k : Str) : Decidable (okKey k) := by unfold okKey; infer_instance
theorem shelf_ok : ∀ sk ∈ shelves, SortedS sk ∧ ∀ k ∈ sk, okKey k := by decide +kernel
theorem sub_keys {sk c : List Str} (hs : sk ∈ shelves) (h : c.Sublist sk) (hn : c ≠ []) : okKeys c := by
  obtain ⟨h1, h2⟩ := shelf_ok sk hs
  have h3 := shelf3 sk hs
  have h4 := h.length_le
  exact ⟨hn, by omega, List.Pairwise.sublist h h1, fun k hk => h2 k (h.subset hk)⟩
def C__law_draw : CT := DL.C_draw
def C__law_next : CT := DL.C_next
def C__law_shelf : CT := fun ds μ Q => match ds with
  | [.ptr dr] => μ dr = some .draw ∧ ∀ s ∈ shelves, Q (eKeys s) μ
  | _ => False
def C__law_commits : CT := fun ds μ Q => match ds with
  | [s] => ∃ sk ∈ shelves, s = eKeys sk ∧ ∀ cs : List (List Str), cs ≠ [] → cs.length ≤ 7 → (∀ c ∈ cs, c ≠ [] ∧ c.Sublist sk) → Q (.lst (cs.map eKeys)) μ
  | _ => False
def eTab (t : List (List Str)) : D := .lst (t.map eKeys)
def C__law_told : CT := fun ds μ Q => match ds with
  | [.ptr dr, s, t, .int m] => μ dr = some .draw ∧ ∃ sk ∈ shelves, ∃ tb : List (List Str), s = eKeys sk ∧ t = eTab tb ∧ m = tb.length ∧ 1 ≤ m ∧ m ≤ 4 ∧ (∀ c ∈ tb, c ≠ [] ∧ c.Sublist sk) ∧ ∀ q, okP q → (∀ k v n, q = .times k v n → n ≤ 18) → Q (ePc q) μ
  | _ => False
def C__law_bent : CT := fun ds μ Q => match ds with
  | [.ptr dr, s, p] => μ dr = some .draw ∧ ∃ sk ∈ shelves, ∃ (q : Pc), s = eKeys sk ∧ p = ePc q ∧ okP q ∧ (∀ k v n, q = .times k v n → n ≤ 18) ∧ ∀ q', okP q' → Q (ePc q') μ
  | _ => False
section
variable {P : Program} {w : World} {K : PySem.W.Frag} {mg : Str → Option Value} {base : Heap}
theorem ok0__law_next (T : Tx K mg) : FnOk P w K mg base CX0 1 T.a__law_next T.d__law_next ["draw", "many"] (spD K DL.C0_next) :=
  DL.Fun.okD (N := ["draw", "many", "found", "cell"]) T.F__law_next sc__law_next (fun cdv A outer s H E hr => 
      (dss_cons (ds_if (dt_cmp op_gtD od_gt (de_ix ix_seq od_ix (dv 0) de_int (fun _ _ => rfl)) de_int (nomark _)) 
      (dss_cons (ds_set 2 sc__law_next.nd (de_op op_mod od_mod (de_T call_int1 cd_int (by rfl) T.b_int (by decide +kernel) (da_cons (de_ix ix_seq od_ix (dv 0) de_int (fun _ _ => rfl)) da_nil)) (dv 1))) 
      (dss_cons (ds_setIx (dv 0) de_int (de_op op_fdiv od_fdiv (de_ix ix_seq od_ix (dv 0) de_int (fun _ _ => rfl)) (dv 1))) 
      (dss_one (ds_ret (dv 2))))) dss_nil) 
      (dss_cons (ds_if (dt_cmp op_ltD od_lt (de_ix ix_seq od_ix (dv 0) de_int (fun _ _ => rfl)) (de_B L2.call_len cd_len (by rfl) T.b_len (by decide +kernel) (da_cons (de_ix ix_seq od_ix (dv 0) de_int (fun _ _ => rfl)) da_nil)) (nomark _)) 
      (dss_cons (ds_set 3 sc__law_next.nd (de_B call_abs cd_abs (by rfl) T.b_abs (by decide +kernel) (da_cons (de_ix ix_seq od_ix (de_ix ix_seq od_ix (dv 0) de_int (fun _ _ => rfl)) (de_ix ix_seq od_ix (dv 0) de_int (fun _ _ => rfl)) (fun _ _ => rfl)) da_nil))) 
      (dss_cons (ds_setIx (dv 0) de_int (de_op op_addD od_add (de_ix ix_seq od_ix (dv 0) de_int (fun _ _ => rfl)) de_int)) 
      (dss_cons (ds_if (dt_cmp op_geD od_ge (dv 3) (de_op op_pow od_pow de_int de_int) (nomark _)) 
      (dss_cons (ds_setIx (dv 0) de_int (de_op op_fdiv od_fdiv (dv 3) (dv 1))) 
      (dss_one (ds_ret (de_op op_mod od_mod (de_T call_int1 cd_int (by rfl) T.b_int (by decide +kernel) (da_cons (dv 3) da_nil)) (dv 1))))) dss_nil) 
      (dss_one (ds_setIx (dv 0) de_int (de_op op_mod od_mod (de_T call_int1 cd_int (by rfl) T.b_int (by decide +kernel) (da_cons (de_op op_addD od_add (de_op op_addD od_add (de_op op_mulD od_mul (de_ix ix_seq od_ix (dv 0) de_int (fun _ _ => rfl)) de_int) (dv 3)) de_int) da_nil)) de_int)))))) 
      (dss_one (ds_setIx (dv 0) de_int (de_op op_mod od_mod (de_T call_int1 cd_int (by rfl) T.b_int (by decide +kernel) (da_cons (de_op op_addD od_add (de_op op_mulD od_mul (de_ix ix_seq od_ix (dv 0) de_int (fun _ _ => rfl)) de_int) de_int) da_nil)) de_int)))) 
      (dss_one (ds_ret (de_op op_mod od_mod (de_op op_fdiv od_fdiv (de_T call_int1 cd_int (by rfl) T.b_int (by decide +kernel) (da_cons (de_op op_mod od_mod (de_op op_mulD od_mul (de_ix ix_seq od_ix (dv 0) de_int (fun _ _ => rfl)) de_int) de_int) da_nil)) de_int) (dv 1)))))))
    (by intro ds μ Q h; unfold DL.C0_next at h; split at h <;> first | rfl | exact h.elim) (by
  intro ds μ Q h
  unfold C0_next at h
  split at h
  · rename_i dr many
    obtain ⟨ns, i, j, k, hd, hb, h0, h1, hq⟩ := h
    unfold bufD at hd hq
    have hm : ∀ x : Int, 0 ≤ x % many ∧ x % many < many := fun x => ⟨Int.emod_nonneg _ (by omega), Int.emod_lt_of_pos _ h0⟩
    have hm3 : ∀ x : Int, 0 ≤ x % 2147483647 ∧ x % 2147483647 < 2147483647 := fun x => ⟨Int.emod_nonneg _ (by omega), Int.emod_lt_of_pos _ (by omega)⟩
    obtain ⟨b1, b2, b3, b4, b5⟩ := hb
    (walk_at "dl")
    simp only [buf_ix hd]
    (walk_at "dl")
    by_cases hj : 0 < j
    · simp only [hj, if_true]
      refine ⟨h0, ?_⟩
      unfold sSetIx
      (walk_at "dl")
      simp only [buf_ix hd]
      (walk_at "dl")
      refine ⟨⟨h0, h1⟩, dr, _, _, 2, rfl, rfl, hd, rfl, ?_⟩
      (walk_at "dl")
      exact hq _ i (j / many) k (hm _).1 (hm _).2 ⟨b1, b2, Int.ediv_nonneg b3 (by omega), b4, b5⟩
    · simp only [hj, if_false]
      by_cases hi : i < ns.length
      · have hi2 : i < ((ns.map D.int).length : Int) := by rw [List.length_map]; exact hi
        simp only [hi2, decide_true, if_true]
        obtain ⟨x, hx, _⟩ := atI_in b2 hi
        refine ⟨D.int x, by rw [atI_map, hx]; rfl, ?_⟩
        unfold sSetIx
        (walk_at "dl")
        simp only [buf_ix hd]
        (walk_at "dl")
        refine ⟨dr, _, _, 1, rfl, rfl, hd, rfl, ?_⟩
        (walk_at "dl")
        refine ⟨⟨by omega, by omega, by decide⟩, ?_⟩
        by_cases hc : (10 : Int) ^ (18 : Int).toNat ≤ absI x
        · simp only [hc, decide_true, if_true]
          refine ⟨⟨h0, h1⟩, dr, _, _, 2, rfl, rfl, Mu.put_same, rfl, ?_⟩
          rw [Mu.put_put]
          (walk_at "dl")
          refine ⟨h0, ?_⟩
          exact hq _ (i + 1) (absI x / many) k (hm _).1 (hm _).2 ⟨b1, by omega, Int.ediv_nonneg (abs_nn x) (by omega), b4, b5⟩
        · simp only [hc, decide_false, Bool.false_eq_true, if_false]
          simp only [buf_ix Mu.put_same]
          (walk_at "dl")
          refine ⟨Or.inr ⟨by omega, by omega⟩, by omega, dr, _, _, 3, rfl, rfl, Mu.put_same, rfl, ?_⟩
          rw [Mu.put_put]
          (walk_at "dl")
          simp only [buf_ix Mu.put_same]
          (walk_at "dl")
          have hk := hm3 (k * 48271 + absI x + 11)
          refine ⟨Or.inr ⟨by omega, by omega⟩, by omega, ⟨by omega, by omega⟩, h0, ?_⟩
          exact hq _ (i + 1) j _ (hm _).1 (hm _).2 ⟨b1, by omega, b3, hk.1, hk.2⟩
      · have hi2 : ¬ i < ((ns.map D.int).length : Int) := by rw [List.length_map]; exact hi
        simp only [hi2, decide_false, Bool.false_eq_true, if_false]
        unfold sSetIx
        (walk_at "dl")
        simp only [buf_ix hd]
        (walk_at "dl")
        refine ⟨Or.inr ⟨by omega, by omega⟩, by omega, dr, _, _, 3, rfl, rfl, hd, rfl, ?_⟩
        (walk_at "dl")
        simp only [buf_ix Mu.put_same]
        (walk_at "dl")
        have hk := hm3 (k * 48271 + 12345)
        refine ⟨Or.inr ⟨by omega, by omega⟩, by omega, ⟨by omega, by omega⟩, h0, ?_⟩
        exact hq _ i j _ (hm _).1 (hm _).2 ⟨b1, b2, b3, hk.1, hk.2⟩
  · exact h.elim
)


theorem ok0__law_draw (T : Tx K mg) : FnOk P w K mg base CX0 1 T.a__law_draw T.d__law_draw ["script"] (spD K DL.C0_draw) :=
  DL.Fun.okD (N := ["script"]) T.F__law_draw sc__law_draw (fun cdv A outer s H E hr => 
      (dss_one (ds_ret (de_lstM (da_cons (de_T call_list_of cd_list (by rfl) T.b_list (by decide +kernel) (da_cons (dv 0) da_nil)) (da_cons de_int (da_cons de_int (da_cons de_int da_nil))))))))
    (by intro ds μ Q h; unfold DL.C0_draw at h; split at h <;> first | rfl | exact h.elim) (by
  intro ds μ Q h
  unfold C0_draw at h
  split at h
  · obtain ⟨h1, hq⟩ := h
    unfold bufD at hq
    (walk_at "dl")
    refine ⟨sz_small (by omega), ?_⟩
    exact hq
  · exact h.elim
)


theorem ok__law_next (T : Tx K mg) : FnOk P w K mg base CX0 1 T.a__law_next T.d__law_next ["draw", "many"] (spD K C__law_next) := (ok0__law_next T).imp fun _ _ _ _ h => next_imp h
theorem ok__law_draw (T : Tx K mg) : FnOk P w K mg base CX0 1 T.a__law_draw T.d__law_draw ["script"] (spD K C__law_draw) := (ok0__law_draw T).imp fun _ _ _ _ h => draw_imp h
theorem ok__law_commits (T : Tx K mg) : FnOk P w K mg base CX0 1 T.a__law_commits T.d__law_commits ["shelf"] (spD K C__law_commits) :=
  DL.Fun.okD (N := ["shelf", "found", "mark", "k"]) T.F__law_commits sc__law_commits (fun cdv A outer s H E hr => 
      (dss_cons (ds_set 1 sc__law_commits.nd (de_lstM da_nil)) 
      (dss_cons (ds_for PassesOwn.never rfl (di_rg2 (by rfl) T.b_range (da_cons de_int (da_cons (de_op op_shl od_shl de_int (de_B L2.call_len cd_len (by rfl) T.b_len (by decide +kernel) (da_cons (dv 0) da_nil))) da_nil))) (dg_name 2 sc__law_commits.nd) 
      (dss_one (ds_app (dv 1) (de_T call_tuple_of cd_tuple (by rfl) T.b_tuple (by decide +kernel) (da_cons (de_lc [("k", 3)] rfl sc__law_commits.nd (di_rg1 (by rfl) T.b_range (da_cons (de_B L2.call_len cd_len (by rfl) T.b_len (by decide +kernel) (da_cons (dv 0) da_nil)) da_nil)) (blkOk_by (sc := (defScope s__law_commits)) (own := [("k", 3)]) (N := ["shelf", "found", "mark", "k"]) (by decide +kernel)) (fun _ _ _ _ _ => (dg_name 3 sc__law_commits.nd)) (fun _ _ _ _ _ => dts_one (dt_tru (de_op op_and od_and (de_op op_shr od_shr (dv 2) (dv 3)) de_int))) (fun _ _ _ _ _ => (de_ix ix_seq od_ix (dv 0) (dv 3) (fun _ _ => rfl)))) da_nil))))) 
      (dss_frz 1 (dss_one (ds_ret (dv 1)))))))
    (by intro ds μ Q h; unfold C__law_commits at h; split at h <;> first | rfl | exact h.elim) (by
  intro ds μ Q h
  unfold C__law_commits at h
  split at h
  · obtain ⟨sk, hs, rfl, hq⟩ := h
    have hl := shelf3 sk hs
    (walk_at "dl")
    intro p hp
    refine for_map (fun i : Nat => D.int (1 + (i : Nat))) (List.range ((1 * 2 ^ (sk.length : Int).toNat - 1 : Int)).toNat) (fun pre ρ' μ' => (∃ a b, ρ' = [some (eKeys sk), some (.ptr p), a, b]) ∧ μ' = μ.put p (.lst ((pre.map (mkC sk)).map eKeys))) (rg2 ⟨by omega, by omega⟩ ?_ fun R h => ?_) ⟨⟨_, _, rfl⟩, rfl⟩ (fun pre m post ρ' μ' e hI => ?_) fun ρ' μ' hI => ?_
    · have h4 : sk.length = 0 ∨ sk.length = 1 ∨ sk.length = 2 ∨ sk.length = 3 := by omega
      rcases h4 with h | h | h | h <;> rw [h] <;> exact ⟨by decide, by decide⟩
    · unfold eKeys
      (walk_at "dl")
      simp only [List.length_map]
      exact ⟨⟨by omega, by omega, by decide⟩, h⟩
    · obtain ⟨⟨a, b, rfl⟩, rfl⟩ := hI
      (walk_at "dl")
      refine ⟨p, _, rfl, Mu.put_same, ?_⟩
      have hpre : pre.length ≤ 7 := by
        have h1 := congrArg List.length e
        rw [List.length_range, List.length_append] at h1
        have h4 : sk.length = 0 ∨ sk.length = 1 ∨ sk.length = 2 ∨ sk.length = 3 := by omega
        have h5 : (1 * 2 ^ (sk.length : Int).toNat - 1 : Int).toNat ≤ 7 := by rcases h4 with h | h | h | h <;> rw [h] <;> decide
        omega
      refine lc_fmapT (List.range sk.length) (fun k : Nat => D.int (0 + (k : Nat))) (fun k => if Builtin.bitAnd ((1 + (m : Int)) / 2 ^ k) 1 ≠ 0 then some (D.str (sk.getD k ⟨#[]⟩)) else none) (fun R h => ?_) (fun k hk q acc hq' N hN => ?_) ?_
      · refine rg1 (i := sk.length) ⟨by omega, by omega⟩ (fun R h => ?_) R (by rw [Int.toNat_natCast]; exact h)
        unfold eKeys
        (walk_at "dl")
        rw [List.length_map]
        exact h
      · have hk' := List.mem_range.mp hk
        (walk_at "dl")
        refine ⟨by omega, ?_⟩
        have e0 : (0 + (k : Int)).toNat = k := by omega
        rw [e0]
        by_cases hb : Builtin.bitAnd ((1 + (m : Int)) / 2 ^ k) 1 = 0
        · rw [hb]
          exact hN _ (by simp [hb])
        · have h1 : (Builtin.bitAnd ((1 + (m : Int)) / 2 ^ k) 1 != 0) = true := by simp [hb]
          rw [if_pos h1]
          unfold eKeys
          (walk_at "dl")
          rw [atI_map, atG ⟨#[]⟩ (by omega) (by omega), e0]
          exact ⟨_, rfl, hN _ (by rw [if_pos hb])⟩
      · (walk_at "dl")
        refine ⟨_, Mu.put_same, sz_small' (by simp only [List.length_map]; omega), ⟨_, _, rfl⟩, ?_⟩
        rw [Mu.put_put]
        congr 2
        rw [List.map_append, List.map_append]
        congr 1
        have e5 : ∀ l : List Nat, (l.filterMap fun k => if Builtin.bitAnd ((1 + (m : Int)) / 2 ^ k) 1 ≠ 0 then some (D.str (sk.getD k ⟨#[]⟩)) else none) = (l.filterMap fun k => if Builtin.bitAnd ((1 + (m : Int)) / 2 ^ k) 1 ≠ 0 then some (sk.getD k ⟨#[]⟩) else none).map D.str := by
          intro l
          rw [List.map_filterMap]
          congr 1
          funext k
          split <;> rfl
        rw [e5]
        rfl
    · obtain ⟨⟨a, b, rfl⟩, rfl⟩ := hI
      (walk_at "dl")
      refine ⟨p, _, rfl, Mu.put_same, ?_⟩
      rw [Mu.put_del hp]
      obtain ⟨c1, c2, c3⟩ := allC_ok sk hs
      exact hq (allC sk) c1 c2 c3
  · exact h.elim
)


theorem ok__law_shelf (T : Tx K mg) : FnOk P w K mg base CX0 2 T.a__law_shelf T.d__law_shelf ["draw"] (spD K C__law_shelf) :=
  DL.Fun.okD (N := ["draw"]) T.F__law_shelf sc__law_shelf (fun cdv A outer s H E hr => 
      (dss_one (ds_ret (de_ix ix_seq od_ix (de_lst (da_cons (de_tup (da_cons (de_str) da_nil)) (da_cons (de_tup (da_cons (de_str) (da_cons (de_str) da_nil))) (da_cons (de_tup (da_cons (de_str) (da_cons (de_str) da_nil))) (da_cons (de_tup (da_cons (de_str) (da_cons (de_str) (da_cons (de_str) da_nil)))) (da_cons (de_tup (da_cons (de_str) da_nil)) da_nil)))))) (de_call (ok__law_next T) (hr.mono (by decide)) (by rfl) T.m__law_next T.k__law_next T.v__law_next pass0 (da_cons (dv 0) (da_cons de_int da_nil))) (fun _ _ => rfl)))))
    (by intro ds μ Q h; unfold C__law_shelf at h; split at h <;> first | rfl | exact h.elim) (by
  intro ds μ Q h
  unfold C__law_shelf at h
  split at h
  · obtain ⟨hd, hq⟩ := h
    (walk_at "dl")
    refine ⟨hd, by decide, by decide, fun i i0 i1 => ?_⟩
    (walk_at "dl")
    show ∃ d, atI (shelves.map eKeys) i = some d ∧ Q d μ
    have hlen : (shelves.length : Int) = 5 := rfl
    rw [atI_map, atG [] i0 (by omega)]
    refine ⟨_, rfl, hq _ ?_⟩
    rw [List.getD_eq_getElem?_getD, List.getElem?_eq_getElem (by omega)]
    exact List.getElem_mem _
  · exact h.elim
)



end
end K42
end

-- part E8
section
local macro_rules | `(tactic| walk_at "dl") => `(tactic| simp only [DL.sRet, DL.dJoined, DL.dJs, DL.dFmt, DL.dFld, DL.dMeth, DL.dMake, DL.sFld, DL.sFldI, DL.sSeq, DL.sSet, DL.sIf, DL.sNext, DL.sNever, DL.sDrop, DL.sAsg, DL.sRetN, DL.dVar, DL.dC, DL.dOp, DL.dTest, DL.dAnd, DL.dOr, DL.dNot, DL.dTru, DL.dAndV, DL.dOrV, DL.dNotV, DL.dIf, DL.aNil, DL.aCons, DL.dTup, DL.dLst, DL.dLstM, DL.dCall, DL.dFrz, DL.dB, DL.dNeg, DL.dSl, DL.oNone, DL.oSome, DL.dChn, DL.gN, DL.gT, DL.setAll, DL.fOf, DL.aNilX, DL.aConsX, DL.dTupX, DL.dLstMX, DL.dCallX, DL.dCallN, DL.dMethX, DL.xOf, DL.xNext, DL.xSeq, DL.xDrop, DL.xRet, DL.xIf, DL.xSet, DL.xFrz, DL.xApp, DL.xRaise, DL.dWix, DL.dWget, DL.optS,
  DL.ix_l, DL.ix_t, DL.ix_s, DL.ix_p, DL.add_i, DL.add_s, DL.add_l, DL.add_t, DL.mul_i, DL.mul_b, DL.sub_i, DL.fdiv_i, DL.mod_i, DL.pow_i, DL.shl_i, DL.shr_i, DL.and_i, DL.lt_i, DL.le_i, DL.gt_i, DL.ge_i, DL.le_s, DL.in_t, DL.in_l, DL.in_s, DL.len_l, DL.len_t, DL.len_s, DL.len_p, DL.list_l, DL.list_t, DL.list_s, DL.list_p, DL.tuple_l, DL.tuple_t, DL.int_i, DL.int_b, DL.abs_i, DL.max_i, DL.min_i, DL.all_l, DL.any_l, DL.isi_1, DL.isi_n, DL.sl_l, DL.sl_t, DL.sl_s, DL.neg_i, DL.isN_i, DL.notN_i, DL.eq_x, DL.ne_x,
  DL.w_wrote_many, DL.w_wrote_many_b, DL.w_wrote_among, DL.w_wrote_among_b, DL.w_wrote_did, DL.w_wrote_did_b, DL.w_wrote_times, DL.w_wrote_times_b, DL.w_wrote_value, DL.w_wrote_value_b, DL.w_wrote_head, DL.w_wrote_head_b, DL.w_many_wrote, DL.w_many_wrote_b, DL.w_many_among, DL.w_many_among_b, DL.w_many_did, DL.w_many_did_b, DL.w_many_times, DL.w_many_times_b, DL.w_many_value, DL.w_many_value_b, DL.w_many_head, DL.w_many_head_b, DL.w_among_wrote, DL.w_among_wrote_b, DL.w_among_many, DL.w_among_many_b, DL.w_among_did, DL.w_among_did_b, DL.w_among_times, DL.w_among_times_b, DL.w_among_value, DL.w_among_value_b, DL.w_among_head, DL.w_among_head_b, DL.w_did_wrote, DL.w_did_wrote_b, DL.w_did_many, DL.w_did_many_b, DL.w_did_among, DL.w_did_among_b, DL.w_did_times, DL.w_did_times_b, DL.w_did_value, DL.w_did_value_b, DL.w_did_head, DL.w_did_head_b, DL.w_times_wrote, DL.w_times_wrote_b, DL.w_times_many, DL.w_times_many_b, DL.w_times_among, DL.w_times_among_b, DL.w_times_did, DL.w_times_did_b, DL.w_times_value, DL.w_times_value_b, DL.w_times_head, DL.w_times_head_b, DL.w_value_wrote, DL.w_value_wrote_b, DL.w_value_many, DL.w_value_many_b, DL.w_value_among, DL.w_value_among_b, DL.w_value_did, DL.w_value_did_b, DL.w_value_times, DL.w_value_times_b, DL.w_value_head, DL.w_value_head_b, DL.w_head_wrote, DL.w_head_wrote_b, DL.w_head_many, DL.w_head_many_b, DL.w_head_among, DL.w_head_among_b, DL.w_head_did, DL.w_head_did_b, DL.w_head_times, DL.w_head_times_b, DL.w_head_value, DL.w_head_value_b,
  DL.q_ss, DL.q_ii, DL.q_bb, DL.q_nn, DL.q_tt, DL.q_ll, DL.q_si, DL.q_sn, DL.q_st, DL.q_sl, DL.q_is, DL.q_in, DL.q_it, DL.q_il, DL.q_ns, DL.q_ni, DL.q_nt, DL.q_nl, DL.q_ts, DL.q_ti, DL.q_tn, DL.q_tl, DL.q_ls, DL.q_li, DL.q_ln, DL.q_lt, DL.qs_nil, DL.qs_cons, DL.qs_nc, DL.qs_cn, DL.p_t16, DL.p_l16, DL.p_t15, DL.p_l15, DL.p_t14, DL.p_l14, DL.p_t13, DL.p_l13, DL.p_t12, DL.p_l12, DL.p_s, DL.p_i, DL.p_b, DL.p_n, DL.ps_nil, DL.ps_cons, DL.t_b, DL.t_i, DL.t_l, DL.t_t, DL.t_n, DL.n_n, DL.n_i, DL.n_s, DL.n_t, DL.n_l, DL.n_b, DL.f_s, DL.f_i,
  Bool.false_and, Bool.and_false, DL.z0, DL.z1, DL.z2, DL.z3, DL.z4, DL.z5, DL.z6, DL.z12,
  DL.startD, DL.sFrz, DL.sApp, DL.yesD, DL.lcTurn, DL.wipeE, DL.at0, DL.at1, DL.at2, DL.at3, DL.at4, List.map_cons, List.map_nil, List.replicate_succ, List.replicate_zero, List.length_cons, List.length_nil, List.cons_append, List.nil_append, List.set_cons_zero, List.set_cons_succ, List.getElem?_cons_zero, List.getElem?_cons_succ, Option.some.injEq, exists_eq_left, exists_eq_left', exists_eq', exists_eq, true_and, and_true, decide_eq_true_eq, if_true, if_false, Bool.false_eq_true, reduceIte, Nat.reduceAdd, Nat.reduceSub, DL.D.bl.injEq, DL.D.int.injEq, DL.D.str.injEq, DL.D.tup.injEq, DL.D.lst.injEq, DL.D.ptr.injEq, Bool.not_true, Bool.not_false, beq_self_eq_true, List.all_cons, List.all_nil, List.any_cons, List.any_nil, Bool.and_true, Bool.true_and, Bool.or_false, Bool.false_or, Bool.or_true, Bool.true_or, Bool.false_xor, Bool.true_xor, beq_iff_eq, Bool.not_eq_true, Int.reduceEq, Int.reduceBEq, and_self])

namespace K42
open PySem L2 DL
theorem zz_ok : okKeys ["zz"] := ⟨by simp, by decide, by decide +kernel, by decide +kernel⟩
section
variable {P : Program} {w : World} {K : PySem.W.Frag} {mg : Str → Option Value} {base : Heap}
theorem ok__law_told (T : Tx K mg) : FnOk P w K mg base CX0 2 T.a__law_told T.d__law_told ["draw", "shelf", "table", "most"] (spD K C__law_told) :=
  DL.Fun.okD (N := ["draw", "shelf", "table", "most", "form", "key", "version", "commit", "more", "other", "k"]) T.F__law_told sc__law_told (fun cdv A outer s H E hr => 
      (dss_cons (ds_set 4 sc__law_told.nd (de_call (ok__law_next T) (hr.mono (by decide)) (by rfl) T.m__law_next T.k__law_next T.v__law_next pass0 (da_cons (dv 0) (da_cons de_int da_nil)))) 
      (dss_cons (ds_set 5 sc__law_told.nd (de_ix ix_seq od_ix (dv 1) (de_call (ok__law_next T) (hr.mono (by decide)) (by rfl) T.m__law_next T.k__law_next T.v__law_next pass0 (da_cons (dv 0) (da_cons (de_B L2.call_len cd_len (by rfl) T.b_len (by decide +kernel) (da_cons (dv 1) da_nil)) da_nil))) (fun _ _ => rfl))) 
      (dss_cons (ds_if (dt_cmp op_gtD od_gt (dv 4) de_int (nomark _)) 
      (dss_one (ds_ret (de_tup (da_cons (de_str) (da_cons (dv 5) (da_cons (de_op op_addD od_add de_int (de_call (ok__law_next T) (hr.mono (by decide)) (by rfl) T.m__law_next T.k__law_next T.v__law_next pass0 (da_cons (dv 0) (da_cons de_int da_nil)))) (da_cons (de_op op_sub od_sub (de_call (ok__law_next T) (hr.mono (by decide)) (by rfl) T.m__law_next T.k__law_next T.v__law_next pass0 (da_cons (dv 0) (da_cons de_int da_nil))) de_int) da_nil))))))) dss_nil) 
      (dss_cons (ds_set 6 sc__law_told.nd (de_op op_addD od_add de_int (de_call (ok__law_next T) (hr.mono (by decide)) (by rfl) T.m__law_next T.k__law_next T.v__law_next pass0 (da_cons (dv 0) (da_cons (dv 3) da_nil))))) 
      (dss_cons (ds_set 7 sc__law_told.nd (de_ix ix_seq od_ix (dv 2) (de_op op_sub od_sub (dv 6) de_int) (fun _ _ => rfl))) 
      (dss_cons (ds_if (dt_cmp (op_eqD hr.units) od_eq (dv 4) de_int (nomark _)) 
      (dss_one (ds_ret (de_tup (da_cons (de_str) (da_cons (dv 6) (da_cons (dv 7) da_nil)))))) dss_nil) 
      (dss_cons (ds_if (dt_cmp (op_eqD hr.units) od_eq (dv 4) de_int (nomark _)) 
      (dss_one (ds_ret (de_tup (da_cons (de_str) (da_cons (dv 6) (da_cons (de_B L2.call_len cd_len (by rfl) T.b_len (by decide +kernel) (da_cons (dv 7) da_nil)) da_nil)))))) dss_nil) 
      (dss_cons (ds_if (dt_cmp (op_eqD hr.units) od_eq (dv 4) de_int (nomark _)) 
      (dss_cons (ds_setLc 8 [("other", 9)] rfl sc__law_told.nd (sw_true rfl rfl rfl (by decide +kernel)) (di_seq (dv 1)) (blkOk_by (sc := (defScope s__law_told)) (own := [("other", 9)]) (N := ["draw", "shelf", "table", "most", "form", "key", "version", "commit", "more", "other", "k"]) (by decide +kernel)) (fun _ _ _ _ _ => (dg_name 9 sc__law_told.nd)) (fun _ _ _ _ _ => dts_one (dw_pt (dw_or (dt_cmp op_inD2 od_in (dv 9) (dv 7) (by rfl)) (dw_or1 (dt_tru (de_call (ok__law_next T) (hr.mono (by decide)) (by rfl) T.m__law_next T.k__law_next T.v__law_next pass0 (da_cons (dv 0) (da_cons de_int da_nil)))))))) (fun _ _ _ _ _ => (dv 9))) 
      (dss_one (ds_ret (de_tup (da_cons (de_str) (da_cons (dv 6) (da_cons (de_T call_tuple_of cd_tuple (by rfl) T.b_tuple (by decide +kernel) (da_cons (dv 8) da_nil)) da_nil))))))) dss_nil) 
      (dss_cons (ds_if (dt_cmp (op_eqD hr.units) od_eq (dv 4) de_int (nomark _)) 
      (dss_one (ds_ret (de_tup (da_cons (de_str) (da_cons (dv 6) (da_cons (de_ix ix_seq od_ix (dv 7) (de_call (ok__law_next T) (hr.mono (by decide)) (by rfl) T.m__law_next T.k__law_next T.v__law_next pass0 (da_cons (dv 0) (da_cons (de_B L2.call_len cd_len (by rfl) T.b_len (by decide +kernel) (da_cons (dv 7) da_nil)) da_nil))) (fun _ _ => rfl)) da_nil)))))) dss_nil) 
      (dss_cons (ds_if (dw_pt (dw_and (dt_cmp (op_eqD hr.units) od_eq (dv 4) de_int (nomark _)) (dw_and1 (dt_cmp (op_eqD hr.units) od_eq (de_call (ok__law_next T) (hr.mono (by decide)) (by rfl) T.m__law_next T.k__law_next T.v__law_next pass0 (da_cons (dv 0) (da_cons de_int da_nil))) de_int (nomark _))))) 
      (dss_one (ds_ret (de_tup (da_cons (de_str) (da_cons (dv 6) da_nil))))) dss_nil) 
      (dss_one (ds_ret (de_tup (da_cons (de_str) (da_cons (dv 5) (da_cons (dv 6) (da_cons (de_B L2.call_len cd_len (by rfl) T.b_len (by decide +kernel) (da_cons (de_lc [("k", 10)] rfl sc__law_told.nd (di_rg1 (by rfl) T.b_range (da_cons (dv 6) da_nil)) (blkOk_by (sc := (defScope s__law_told)) (own := [("k", 10)]) (N := ["draw", "shelf", "table", "most", "form", "key", "version", "commit", "more", "other", "k"]) (by decide +kernel)) (fun _ _ _ _ _ => (dg_name 10 sc__law_told.nd)) (fun _ _ _ _ _ => dts_one (dt_cmp op_inD2 od_in (dv 5) (de_ix ix_seq od_ix (dv 2) (dv 10) (fun _ _ => rfl)) (by rfl))) (fun _ _ _ _ _ => (dv 10))) da_nil)) da_nil))))))))))))))))))
    (by intro ds μ Q h; unfold C__law_told at h; split at h <;> first | rfl | exact h.elim) (by
  intro ds μ Q h
  unfold C__law_told at h
  split at h
  · rename_i ds' dr s t m
    obtain ⟨hd, sk, hs, tb, rfl, rfl, hm, h1, h4, hc, hq⟩ := h
    have hl := shelf3 sk hs
    have hn : 0 < sk.length := List.length_pos_iff.mpr (shelfN sk hs)
    (walk_at "dl")
    refine ⟨hd, by decide, by decide, fun f f0 f1 => ?_⟩
    unfold eKeys
    (walk_at "dl")
    refine ⟨hd, by rw [List.length_map]; omega, by rw [List.length_map]; omega, fun i i0 i1 => ?_⟩
    rw [List.length_map] at i1
    (walk_at "dl")
    rw [atI_map, atG ⟨#[]⟩ i0 (by omega)]
    refine ⟨_, rfl, ?_⟩
    have hkey : okKey (sk.getD i.toNat ⟨#[]⟩) := (shelf_ok sk hs).2 _ (by rw [List.getD_eq_getElem?_getD, List.getElem?_eq_getElem (by omega)]; exact List.getElem_mem _)
    generalize sk.getD i.toNat ⟨#[]⟩ = key at hkey
    by_cases c5 : 5 < f
    · rw [if_pos c5]
      refine ⟨hd, by decide, by decide, fun a a0 a1 => ?_⟩
      (walk_at "dl")
      refine ⟨hd, by decide, by decide, fun b b0 b1 => ?_⟩
      (walk_at "dl")
      exact hq (.value key (1 + a) (b - 1)) ⟨⟨by omega, by omega⟩, hkey, by omega, by omega⟩ (fun _ _ _ e => by cases e)
    · rw [if_neg c5]
      refine ⟨hd, by omega, by omega, fun a a0 a1 => ?_⟩
      unfold eTab
      (walk_at "dl")
      rw [atI_map, atG [] (by omega) (by omega)]
      refine ⟨_, rfl, ?_⟩
      have hcm : tb.getD (1 + a - 1).toNat [] ∈ tb := by
        rw [List.getD_eq_getElem?_getD, List.getElem?_eq_getElem (by omega)]
        exact List.getElem_mem _
      have hcc := hc _ hcm
      generalize tb.getD (1 + a - 1).toNat [] = cm at hcm hcc
      obtain ⟨n1, n2⟩ := hcc
      have n3 := n2.length_le
      have n4 := shelf3 sk hs
      have okc := sub_keys hs n2 n1
      have n0 : 0 < cm.length := List.length_pos_iff.mpr n1
      have ov : 1 ≤ 1 + a ∧ 1 + a ≤ 20 := by omega
      unfold eKeys
      (walk_at "dl")
      by_cases e0 : f = 0
      · rw [if_pos e0]
        exact hq (.wrote (1 + a) cm) ⟨ov, okc⟩ (fun _ _ _ e => by cases e)
      · rw [if_neg e0]
        by_cases e1 : f = 1
        · rw [if_pos e1]
          rw [List.length_map]
          exact hq (.many (1 + a) cm.length) ⟨ov, by omega, by omega⟩ (fun _ _ _ e => by cases e)
        · rw [if_neg e1]
          by_cases e2 : f = 2
          · rw [if_pos e2]
            refine lc_byT sk D.str (fun k r => r = some (D.str k) ∨ (r = none ∧ k ∉ cm)) (seq_t fun R h => ?_) (fun k hk p acc hp N hN => ?_) fun rs hrs => ?_
            · (walk_at "dl")
              exact h
            · (walk_at "dl")
              refine ⟨flat_strs cm, ?_⟩
              rw [any_str]
              by_cases hkc : k ∈ cm
              · simp only [hkc, decide_true, if_true]
                exact hN _ (Or.inl rfl)
              · simp only [hkc, decide_false, Bool.false_eq_true, if_false]
                refine ⟨by rw [Mu.put_ne (Mu.ne_of hd hp)]; exact hd, by decide, by decide, fun x x0 x1 => ?_⟩
                (walk_at "dl")
                by_cases hx : x = 0
                · subst hx
                  exact hN _ (Or.inr ⟨rfl, hkc⟩)
                · rw [if_pos (by simp [hx])]
                  exact hN _ (Or.inl rfl)
            · (walk_at "dl")
              have hk : ∀ (l : List Str) (rs : List (Option D)), All2 (fun k r => r = some (D.str k) ∨ (r = none ∧ k ∉ cm)) l rs → ∃ ks : List Str, rs.filterMap id = ks.map D.str ∧ ks.Sublist l ∧ ∀ k ∈ cm, k ∈ l → k ∈ ks := by
                intro l rs h
                induction h with
                | nil => exact ⟨[], rfl, List.Sublist.refl _, fun _ _ h => h⟩
                | @cons k r l rs h1 h2 ih =>
                  obtain ⟨ks, e, e2, e3⟩ := ih
                  rcases h1 with rfl | ⟨rfl, hnk⟩
                  · refine ⟨k :: ks, by simp [e], e2.cons_cons k, fun j hj hjl => ?_⟩
                    rcases List.mem_cons.mp hjl with h | h
                    · simp [h]
                    · simp [e3 j hj h]
                  · refine ⟨ks, by simp [e], e2.cons k, fun j hj hjl => ?_⟩
                    rcases List.mem_cons.mp hjl with h | h
                    · subst h; exact absurd hj hnk
                    · exact e3 j hj h
              obtain ⟨ks, e, es, em⟩ := hk _ _ hrs
              rw [e]
              have hks : ks ≠ [] := by
                obtain ⟨c0, hc0⟩ := List.exists_mem_of_ne_nil cm n1
                have := em c0 hc0 (n2.subset hc0)
                intro h0; rw [h0] at this; cases this
              exact hq (.among (1 + a) ks) ⟨ov, sub_keys hs es hks⟩ (fun _ _ _ e => by cases e)
          · rw [if_neg e2]
            by_cases e3 : f = 3
            · rw [if_pos e3]
              refine ⟨hd, by rw [List.length_map]; omega, by rw [List.length_map]; omega, fun b b0 b1 => ?_⟩
              rw [List.length_map] at b1
              (walk_at "dl")
              rw [atI_map, atG ⟨#[]⟩ b0 (by omega)]
              refine ⟨_, rfl, ?_⟩
              exact hq (.did (1 + a) _) ⟨ov, okc.2.2.2 _ (by rw [List.getD_eq_getElem?_getD, List.getElem?_eq_getElem (by omega)]; exact List.getElem_mem _)⟩ (fun _ _ _ e => by cases e)
            · rw [if_neg e3]
              by_cases e4 : f = 4
              · rw [if_pos e4]
                refine ⟨hd, by decide, by decide, fun x x0 x1 => ⟨p_i, ?_⟩⟩
                (walk_at "dl")
                by_cases hx : x = 0
                · rw [if_pos hx]
                  exact hq (.head (1 + a)) ⟨by omega, by omega⟩ (fun _ _ _ e => by cases e)
                · rw [if_neg hx]
                  have hcnt : ((List.range (1 + a).toNat).filterMap (fK tb key)).length ≤ 4 := Nat.le_trans (List.length_filterMap_le _ _) (by rw [List.length_range]; omega)
                  refine lc_fmapT (List.range (1 + a).toNat) (fun i => D.int (0 + (i : Nat))) (fK tb key) (rg1 ⟨by omega, by omega⟩ fun R h => ?_) (fun i hi p acc hp N hN => ?_) ?_
                  · (walk_at "dl")
                    exact h
                  · have hi' := List.mem_range.mp hi
                    (walk_at "dl")
                    rw [atI_map, atG [] (by omega) (by omega)]
                    have e0 : (0 + (i : Int)).toNat = i := by omega
                    rw [e0]
                    refine ⟨_, rfl, ?_⟩
                    (walk_at "dl")
                    refine ⟨flat_strs _, ?_⟩
                    rw [any_str]
                    by_cases hk : key ∈ tb.getD i []
                    · simp only [hk, decide_true, if_true]
                      exact hN _ (by unfold fK; rw [if_pos hk])
                    · simp only [hk, decide_false, Bool.false_eq_true, if_false]
                      exact hN _ (by unfold fK; rw [if_neg hk])
                  · (walk_at "dl")
                    exact hq (.times key (1 + a) _) ⟨⟨by omega, by omega⟩, hkey, by omega, by omega⟩ (fun _ _ _ e => by cases e; omega)
              · rw [if_neg e4]
                have hcnt : ((List.range (1 + a).toNat).filterMap (fK tb key)).length ≤ 4 := Nat.le_trans (List.length_filterMap_le _ _) (by rw [List.length_range]; omega)
                refine lc_fmapT (List.range (1 + a).toNat) (fun i => D.int (0 + (i : Nat))) (fK tb key) (rg1 ⟨by omega, by omega⟩ fun R h => ?_) (fun i hi p acc hp N hN => ?_) ?_
                · (walk_at "dl")
                  exact h
                · have hi' := List.mem_range.mp hi
                  (walk_at "dl")
                  rw [atI_map, atG [] (by omega) (by omega)]
                  have e0 : (0 + (i : Int)).toNat = i := by omega
                  rw [e0]
                  refine ⟨_, rfl, ?_⟩
                  (walk_at "dl")
                  refine ⟨flat_strs _, ?_⟩
                  rw [any_str]
                  by_cases hk : key ∈ tb.getD i []
                  · simp only [hk, decide_true, if_true]
                    exact hN _ (by unfold fK; rw [if_pos hk])
                  · simp only [hk, decide_false, Bool.false_eq_true, if_false]
                    exact hN _ (by unfold fK; rw [if_neg hk])
                · (walk_at "dl")
                  exact hq (.times key (1 + a) _) ⟨⟨by omega, by omega⟩, hkey, by omega, by omega⟩ (fun _ _ _ e => by cases e; omega)
  · exact h.elim
)


theorem ok__law_bent (T : Tx K mg) : FnOk P w K mg base CX0 2 T.a__law_bent T.d__law_bent ["draw", "shelf", "piece"] (spD K C__law_bent) :=
  DL.Fun.okD (N := ["draw", "shelf", "piece", "form", "commits"]) T.F__law_bent sc__law_bent (fun cdv A outer s H E hr => 
      (dss_cons (ds_set 3 sc__law_bent.nd (de_call (ok__law_next T) (hr.mono (by decide)) (by rfl) T.m__law_next T.k__law_next T.v__law_next pass0 (da_cons (dv 0) (da_cons de_int da_nil)))) 
      (dss_cons (ds_if (dt_cmp (op_eqD hr.units) od_eq (de_ix ix_seq od_ix (dv 2) de_int (fun _ _ => rfl)) (de_str) (nomark _)) 
      (dss_one (ds_ret (de_tup (da_cons (de_str) (da_cons (de_ix ix_seq od_ix (dv 2) de_int (fun _ _ => rfl)) (da_cons (de_op op_mulD od_mul (de_ix ix_seq od_ix (dv 2) de_int (fun _ _ => rfl)) (de_cmp op_gtD od_gt (dv 3) de_int (nomark _))) (da_cons (de_B (call_max2 rfl) cd_max2 (by rfl) T.b_max (by decide +kernel) (da_cons de_int (da_cons (de_op op_sub od_sub (de_op op_addD od_add (de_ix ix_seq od_ix (dv 2) de_int (fun _ _ => rfl)) (de_op op_mod od_mod (dv 3) de_int)) de_int) da_nil))) da_nil))))))) dss_nil) 
      (dss_cons (ds_if (dt_cmp (op_eqD hr.units) od_eq (de_ix ix_seq od_ix (dv 2) de_int (fun _ _ => rfl)) (de_str) (nomark _)) 
      (dss_one (ds_ret (de_tup (da_cons (de_str) (da_cons (de_ix ix_seq od_ix (dv 2) de_int (fun _ _ => rfl)) (da_cons (de_op op_addD od_add de_int (de_call (ok__law_next T) (hr.mono (by decide)) (by rfl) T.m__law_next T.k__law_next T.v__law_next pass0 (da_cons (dv 0) (da_cons de_int da_nil)))) da_nil)))))) dss_nil) 
      (dss_cons (ds_if (dw_pt (dw_and (dt_cmp op_inD2 od_in (de_ix ix_seq od_ix (dv 2) de_int (fun _ _ => rfl)) (de_tup (da_cons (de_str) (da_cons (de_str) da_nil))) (by rfl)) (dw_and1 (dt_cmp (op_eqD hr.units) od_eq (dv 3) de_int (nomark _))))) 
      (dss_one (ds_ret (de_tup (da_cons (de_ix ix_seq od_ix (dv 2) de_int (fun _ _ => rfl)) (da_cons (de_ix ix_seq od_ix (dv 2) de_int (fun _ _ => rfl)) (da_cons (de_tup (da_cons (de_str) da_nil)) da_nil)))))) dss_nil) 
      (dss_cons (ds_if (dt_cmp op_inD2 od_in (de_ix ix_seq od_ix (dv 2) de_int (fun _ _ => rfl)) (de_tup (da_cons (de_str) (da_cons (de_str) da_nil))) (by rfl)) 
      (dss_cons (ds_set 4 sc__law_bent.nd (de_call (ok__law_commits T) (hr.mono (by decide)) (by rfl) T.m__law_commits T.k__law_commits T.v__law_commits pass0 (da_cons (dv 1) da_nil))) 
      (dss_one (ds_ret (de_tup (da_cons (de_ix ix_seq od_ix (dv 2) de_int (fun _ _ => rfl)) (da_cons (de_ix ix_seq od_ix (dv 2) de_int (fun _ _ => rfl)) (da_cons (de_ix ix_seq od_ix (dv 4) (de_call (ok__law_next T) (hr.mono (by decide)) (by rfl) T.m__law_next T.k__law_next T.v__law_next pass0 (da_cons (dv 0) (da_cons (de_B L2.call_len cd_len (by rfl) T.b_len (by decide +kernel) (da_cons (dv 4) da_nil)) da_nil))) (fun _ _ => rfl)) da_nil))))))) dss_nil) 
      (dss_cons (ds_if (dt_cmp (op_eqD hr.units) od_eq (de_ix ix_seq od_ix (dv 2) de_int (fun _ _ => rfl)) (de_str) (nomark _)) 
      (dss_one (ds_ret (de_tup (da_cons (de_str) (da_cons (de_ix ix_seq od_ix (dv 2) de_int (fun _ _ => rfl)) (da_cons (de_if (dt_tru (dv 3)) (de_ix ix_seq od_ix (dv 1) (de_call (ok__law_next T) (hr.mono (by decide)) (by rfl) T.m__law_next T.k__law_next T.v__law_next pass0 (da_cons (dv 0) (da_cons (de_B L2.call_len cd_len (by rfl) T.b_len (by decide +kernel) (da_cons (dv 1) da_nil)) da_nil))) (fun _ _ => rfl)) (de_str)) da_nil)))))) dss_nil) 
      (dss_one (ds_ret (dv 2))))))))))
    (by intro ds μ Q h; unfold C__law_bent at h; split at h <;> first | rfl | exact h.elim) (by
  intro ds μ Q h
  unfold C__law_bent at h
  split at h
  · rename_i ds' dr s pp
    obtain ⟨hd, sk, hs, q, rfl, rfl, ho, h18, hq⟩ := h
    have hl := shelf3 sk hs
    have hn : 0 < sk.length := List.length_pos_iff.mpr (shelfN sk hs)
    (walk_at "dl")
    refine ⟨hd, by decide, by decide, fun f f0 f1 => ?_⟩
    cases q <;> unfold ePc <;> (walk_at "dl")
    · rename_i v ks
      by_cases e0 : f = 0
      · rw [if_pos e0]
        exact hq (.wrote v ["zz"]) ⟨ho.1, zz_ok⟩
      · rw [if_neg e0]
        refine ⟨sk, hs, rfl, fun cs c1 c2 c3 => ?_⟩
        have n0 : 0 < cs.length := List.length_pos_iff.mpr c1
        (walk_at "dl")
        refine ⟨hd, by rw [List.length_map]; omega, by rw [List.length_map]; omega, fun b b0 b1 => ?_⟩
        rw [List.length_map] at b1
        (walk_at "dl")
        rw [atI_map, atG [] b0 (by omega)]
        refine ⟨_, rfl, ?_⟩
        have hcc := c3 _ (show cs.getD b.toNat [] ∈ cs from (by rw [List.getD_eq_getElem?_getD, List.getElem?_eq_getElem (by omega)]; exact List.getElem_mem _))
        exact hq (.wrote v _) ⟨ho.1, sub_keys hs hcc.2 hcc.1⟩
    · refine ⟨hd, by decide, by decide, fun a a0 a1 => ?_⟩
      (walk_at "dl")
      exact hq (.many _ _) ⟨ho.1, by omega, by omega⟩
    · rename_i v ks
      by_cases e0 : f = 0
      · rw [if_pos e0]
        exact hq (.among v ["zz"]) ⟨ho.1, zz_ok⟩
      · rw [if_neg e0]
        refine ⟨sk, hs, rfl, fun cs c1 c2 c3 => ?_⟩
        have n0 : 0 < cs.length := List.length_pos_iff.mpr c1
        (walk_at "dl")
        refine ⟨hd, by rw [List.length_map]; omega, by rw [List.length_map]; omega, fun b b0 b1 => ?_⟩
        rw [List.length_map] at b1
        (walk_at "dl")
        rw [atI_map, atG [] b0 (by omega)]
        refine ⟨_, rfl, ?_⟩
        have hcc := c3 _ (show cs.getD b.toNat [] ∈ cs from (by rw [List.getD_eq_getElem?_getD, List.getElem?_eq_getElem (by omega)]; exact List.getElem_mem _))
        exact hq (.among v _) ⟨ho.1, sub_keys hs hcc.2 hcc.1⟩
    · rename_i v k
      by_cases e0 : f = 0
      · rw [if_neg (by simp [e0])]
        exact hq (.did v "zz") ⟨ho.1, by decide +kernel⟩
      · rw [if_pos (by simp [e0])]
        unfold eKeys
        (walk_at "dl")
        refine ⟨hd, by rw [List.length_map]; omega, by rw [List.length_map]; omega, fun b b0 b1 => ?_⟩
        rw [List.length_map] at b1
        (walk_at "dl")
        rw [atI_map, atG ⟨#[]⟩ b0 (by omega)]
        exact ⟨_, rfl, hq (.did v _) ⟨ho.1, (shelf_ok sk hs).2 _ (by rw [List.getD_eq_getElem?_getD, List.getElem?_eq_getElem (by omega)]; exact List.getElem_mem _)⟩⟩
    · rename_i k v n
      have h18' := h18 k v n rfl
      obtain ⟨⟨h1, h2⟩, hk, h3, h4⟩ := ho
      have hmx : 0 ≤ maxI 0 (n + f % 3 - 1) ∧ maxI 0 (n + f % 3 - 1) ≤ 20 := by unfold maxI; split <;> omega
      refine ⟨by decide, hq (.times _ _ _) ⟨?_, hk, hmx⟩⟩
      by_cases hf : 0 < f
      · simp only [hf, decide_true, b2I, if_true]
        exact ⟨by omega, by omega⟩
      · simp only [hf, decide_false, b2I, Bool.false_eq_true, if_false]
        exact ⟨by omega, by omega⟩
    · exact hq (.value _ _ _) ho
    · exact hq (.head _) ho
  · exact h.elim
)


end
end K42
end

-- part E9
section
local macro_rules | `(tactic| walk_at "dl") => `(tactic| simp only [DL.sRet, DL.dJoined, DL.dJs, DL.dFmt, DL.dFld, DL.dMeth, DL.dMake, DL.sFld, DL.sFldI, DL.sSeq, DL.sSet, DL.sIf, DL.sNext, DL.sNever, DL.sDrop, DL.sAsg, DL.sRetN, DL.dVar, DL.dC, DL.dOp, DL.dTest, DL.dAnd, DL.dOr, DL.dNot, DL.dTru, DL.dAndV, DL.dOrV, DL.dNotV, DL.dIf, DL.aNil, DL.aCons, DL.dTup, DL.dLst, DL.dLstM, DL.dCall, DL.dFrz, DL.dB, DL.dNeg, DL.dSl, DL.oNone, DL.oSome, DL.dChn, DL.gN, DL.gT, DL.setAll, DL.fOf, DL.aNilX, DL.aConsX, DL.dTupX, DL.dLstMX, DL.dCallX, DL.dCallN, DL.dMethX, DL.xOf, DL.xNext, DL.xSeq, DL.xDrop, DL.xRet, DL.xIf, DL.xSet, DL.xFrz, DL.xApp, DL.xRaise, DL.dWix, DL.dWget, DL.optS,
  DL.ix_l, DL.ix_t, DL.ix_s, DL.ix_p, DL.add_i, DL.add_s, DL.add_l, DL.add_t, DL.mul_i, DL.mul_b, DL.sub_i, DL.fdiv_i, DL.mod_i, DL.pow_i, DL.shl_i, DL.shr_i, DL.and_i, DL.lt_i, DL.le_i, DL.gt_i, DL.ge_i, DL.le_s, DL.in_t, DL.in_l, DL.in_s, DL.len_l, DL.len_t, DL.len_s, DL.len_p, DL.list_l, DL.list_t, DL.list_s, DL.list_p, DL.tuple_l, DL.tuple_t, DL.int_i, DL.int_b, DL.abs_i, DL.max_i, DL.min_i, DL.all_l, DL.any_l, DL.isi_1, DL.isi_n, DL.sl_l, DL.sl_t, DL.sl_s, DL.neg_i, DL.isN_i, DL.notN_i, DL.eq_x, DL.ne_x,
  DL.w_wrote_many, DL.w_wrote_many_b, DL.w_wrote_among, DL.w_wrote_among_b, DL.w_wrote_did, DL.w_wrote_did_b, DL.w_wrote_times, DL.w_wrote_times_b, DL.w_wrote_value, DL.w_wrote_value_b, DL.w_wrote_head, DL.w_wrote_head_b, DL.w_many_wrote, DL.w_many_wrote_b, DL.w_many_among, DL.w_many_among_b, DL.w_many_did, DL.w_many_did_b, DL.w_many_times, DL.w_many_times_b, DL.w_many_value, DL.w_many_value_b, DL.w_many_head, DL.w_many_head_b, DL.w_among_wrote, DL.w_among_wrote_b, DL.w_among_many, DL.w_among_many_b, DL.w_among_did, DL.w_among_did_b, DL.w_among_times, DL.w_among_times_b, DL.w_among_value, DL.w_among_value_b, DL.w_among_head, DL.w_among_head_b, DL.w_did_wrote, DL.w_did_wrote_b, DL.w_did_many, DL.w_did_many_b, DL.w_did_among, DL.w_did_among_b, DL.w_did_times, DL.w_did_times_b, DL.w_did_value, DL.w_did_value_b, DL.w_did_head, DL.w_did_head_b, DL.w_times_wrote, DL.w_times_wrote_b, DL.w_times_many, DL.w_times_many_b, DL.w_times_among, DL.w_times_among_b, DL.w_times_did, DL.w_times_did_b, DL.w_times_value, DL.w_times_value_b, DL.w_times_head, DL.w_times_head_b, DL.w_value_wrote, DL.w_value_wrote_b, DL.w_value_many, DL.w_value_many_b, DL.w_value_among, DL.w_value_among_b, DL.w_value_did, DL.w_value_did_b, DL.w_value_times, DL.w_value_times_b, DL.w_value_head, DL.w_value_head_b, DL.w_head_wrote, DL.w_head_wrote_b, DL.w_head_many, DL.w_head_many_b, DL.w_head_among, DL.w_head_among_b, DL.w_head_did, DL.w_head_did_b, DL.w_head_times, DL.w_head_times_b, DL.w_head_value, DL.w_head_value_b,
  DL.q_ss, DL.q_ii, DL.q_bb, DL.q_nn, DL.q_tt, DL.q_ll, DL.q_si, DL.q_sn, DL.q_st, DL.q_sl, DL.q_is, DL.q_in, DL.q_it, DL.q_il, DL.q_ns, DL.q_ni, DL.q_nt, DL.q_nl, DL.q_ts, DL.q_ti, DL.q_tn, DL.q_tl, DL.q_ls, DL.q_li, DL.q_ln, DL.q_lt, DL.qs_nil, DL.qs_cons, DL.qs_nc, DL.qs_cn, DL.p_t16, DL.p_l16, DL.p_t15, DL.p_l15, DL.p_t14, DL.p_l14, DL.p_t13, DL.p_l13, DL.p_t12, DL.p_l12, DL.p_s, DL.p_i, DL.p_b, DL.p_n, DL.ps_nil, DL.ps_cons, DL.t_b, DL.t_i, DL.t_l, DL.t_t, DL.t_n, DL.n_n, DL.n_i, DL.n_s, DL.n_t, DL.n_l, DL.n_b, DL.f_s, DL.f_i,
  Bool.false_and, Bool.and_false, DL.z0, DL.z1, DL.z2, DL.z3, DL.z4, DL.z5, DL.z6, DL.z12,
  DL.startD, DL.sFrz, DL.sApp, DL.yesD, DL.lcTurn, DL.wipeE, DL.at0, DL.at1, DL.at2, DL.at3, DL.at4, List.map_cons, List.map_nil, List.replicate_succ, List.replicate_zero, List.length_cons, List.length_nil, List.cons_append, List.nil_append, List.set_cons_zero, List.set_cons_succ, List.getElem?_cons_zero, List.getElem?_cons_succ, Option.some.injEq, exists_eq_left, exists_eq_left', exists_eq', exists_eq, true_and, and_true, decide_eq_true_eq, if_true, if_false, Bool.false_eq_true, reduceIte, Nat.reduceAdd, Nat.reduceSub, DL.D.bl.injEq, DL.D.int.injEq, DL.D.str.injEq, DL.D.tup.injEq, DL.D.lst.injEq, DL.D.ptr.injEq, Bool.not_true, Bool.not_false, beq_self_eq_true, List.all_cons, List.all_nil, List.any_cons, List.any_nil, Bool.and_true, Bool.true_and, Bool.or_false, Bool.false_or, Bool.or_true, Bool.true_or, Bool.false_xor, Bool.true_xor, beq_iff_eq, Bool.not_eq_true, Int.reduceEq, Int.reduceBEq, and_self])

namespace K42
open PySem L2 DL
def C__law_news : CT := fun ds μ Q => match ds with
  | [.ptr dr, s, .int m, .int many, .bl b] => μ dr = some .draw ∧ b = true ∧ m = 4 ∧ many ≤ 60 ∧ 0 ≤ many ∧ ∃ sk ∈ shelves, s = eKeys sk ∧ ∀ ns : List Pc, ns.length ≤ 60 → (∀ q ∈ ns, okP q) → Q (eNews ns) μ
  | _ => False
section
variable {P : Program} {w : World} {K : PySem.W.Frag} {mg : Str → Option Value} {base : Heap}
theorem ok__law_news (T : Tx K mg) : FnOk P w K mg base CX0 3 T.a__law_news T.d__law_news ["draw", "shelf", "most", "many", "bends"] (spD K C__law_news) :=
  DL.Fun.okD (N := ["draw", "shelf", "most", "many", "bends", "commits", "table", "k", "news", "piece"]) T.F__law_news sc__law_news (fun cdv A outer s H E hr => 
      (dss_cons (ds_set 5 sc__law_news.nd (de_call (ok__law_commits T) (hr.mono (by decide)) (by rfl) T.m__law_commits T.k__law_commits T.v__law_commits pass0 (da_cons (dv 1) da_nil))) 
      (dss_cons (ds_setLc 6 [("k", 7)] rfl sc__law_news.nd (sw_true rfl rfl rfl (by decide +kernel)) (di_rg1 (by rfl) T.b_range (da_cons (dv 2) da_nil)) (blkOk_by (sc := (defScope s__law_news)) (own := [("k", 7)]) (N := ["draw", "shelf", "most", "many", "bends", "commits", "table", "k", "news", "piece"]) (by decide +kernel)) (fun _ _ _ _ _ => (dg_name 7 sc__law_news.nd)) (fun _ _ _ _ _ => dts_nil) (fun _ _ _ _ _ => (de_ix ix_seq od_ix (dv 5) (de_call (ok__law_next T) (hr.mono (by decide)) (by rfl) T.m__law_next T.k__law_next T.v__law_next pass0 (da_cons (dv 0) (da_cons (de_B L2.call_len cd_len (by rfl) T.b_len (by decide +kernel) (da_cons (dv 5) da_nil)) da_nil))) (fun _ _ => rfl)))) 
      (dss_cons (ds_set 8 sc__law_news.nd (de_lstM da_nil)) 
      (dss_cons (ds_for PassesOwn.never rfl (di_rg1 (by rfl) T.b_range (da_cons (de_call (ok__law_next T) (hr.mono (by decide)) (by rfl) T.m__law_next T.k__law_next T.v__law_next pass0 (da_cons (dv 0) (da_cons (de_op op_addD od_add (dv 3) de_int) da_nil))) da_nil)) (dg_name 7 sc__law_news.nd) 
      (dss_cons (ds_set 9 sc__law_news.nd (de_call (ok__law_told T) (hr.mono (by decide)) (by rfl) T.m__law_told T.k__law_told T.v__law_told pass0 (da_cons (dv 0) (da_cons (dv 1) (da_cons (dv 6) (da_cons (dv 2) da_nil)))))) 
      (dss_one (ds_app (dv 8) (de_if (dw_pt (dw_and (dt_tru (dv 4)) (dw_and1 (dt_cmp (op_eqD hr.units) od_eq (de_call (ok__law_next T) (hr.mono (by decide)) (by rfl) T.m__law_next T.k__law_next T.v__law_next pass0 (da_cons (dv 0) (da_cons de_int da_nil))) de_int (nomark _))))) (de_call (ok__law_bent T) (hr.mono (by decide)) (by rfl) T.m__law_bent T.k__law_bent T.v__law_bent pass0 (da_cons (dv 0) (da_cons (dv 1) (da_cons (dv 9) da_nil)))) (dv 9)))))) 
      (dss_frz 8 (dss_one (ds_ret (dv 8)))))))))
    (by intro ds μ Q h; unfold C__law_news at h; split at h <;> first | rfl | exact h.elim) (by
  intro ds μ Q h
  unfold C__law_news at h
  split at h
  · rename_i ds' dr s m many b
    obtain ⟨hd, rfl, rfl, hm60, hm0, sk, hs, rfl, hq⟩ := h
    refine step_set (fun d μ2 => ∃ cs : List (List Str), cs ≠ [] ∧ cs.length ≤ 7 ∧ (∀ c ∈ cs, c ≠ [] ∧ c.Sublist sk) ∧ d = .lst (cs.map eKeys) ∧ μ2 = μ) (fun R hR => ?_) fun d μ2 hS => ?_
    · (walk_at "dl")
      exact ⟨sk, hs, rfl, fun cs c1 c2 c3 => hR _ _ ⟨cs, c1, c2, c3, rfl, rfl⟩⟩
    obtain ⟨cs, c1, c2, c3, rfl, rfl⟩ := hS
    have n0 : 0 < cs.length := List.length_pos_iff.mpr c1
    refine step_set (fun d μ3 => ∃ tb : List (List Str), tb.length = 4 ∧ (∀ c ∈ tb, c ≠ [] ∧ c.Sublist sk) ∧ d = eTab tb ∧ μ3 = μ2) (fun R hR => ?_) fun d μ3 hS => ?_
    · refine lc_byT (List.range 4) (fun i : Nat => D.int (0 + (i : Nat))) (fun _ r => ∃ c ∈ cs, r = some (eKeys c)) (rg1 (i := 4) ⟨by omega, by omega⟩ fun R h => ?_) (fun i hi p acc hp N hN => ?_) fun rs hrs => ?_
      · (walk_at "dl")
        exact h
      · (walk_at "dl")
        refine ⟨by rw [Mu.put_ne (Mu.ne_of hd hp)]; exact hd, by rw [List.length_map]; omega, by rw [List.length_map]; omega, fun x x0 x1 => ?_⟩
        rw [List.length_map] at x1
        (walk_at "dl")
        rw [atI_map, atG [] x0 (by omega)]
        exact ⟨_, rfl, hN _ ⟨_, by rw [List.getD_eq_getElem?_getD, List.getElem?_eq_getElem (by omega)]; exact List.getElem_mem _, rfl⟩⟩
      · have hk : ∀ (l : List Nat) (rs : List (Option D)), All2 (fun _ r => ∃ c ∈ cs, r = some (eKeys c)) l rs → ∃ tb : List (List Str), rs.filterMap id = tb.map eKeys ∧ tb.length = l.length ∧ ∀ c ∈ tb, c ∈ cs := by
          intro l rs h
          induction h with
          | nil => exact ⟨[], rfl, rfl, by simp⟩
          | @cons k r l rs h1 h2 ih =>
            obtain ⟨tb, e, e2, e3⟩ := ih
            obtain ⟨c, hc, rfl⟩ := h1
            refine ⟨c :: tb, by simp [e], by simp [e2], fun d hd => ?_⟩
            rcases List.mem_cons.mp hd with h | h
            · subst h; exact hc
            · exact e3 d h
        obtain ⟨tb, e, e2, e3⟩ := hk _ _ hrs
        rw [e]
        exact hR _ _ ⟨tb, by rw [e2]; rfl, fun c hc => c3 c (e3 c hc), rfl, rfl⟩
    obtain ⟨tb, t1, t2, rfl, rfl⟩ := hS
    refine step_set (fun d μ4 => ∃ p, d = .ptr p ∧ μ3 p = none ∧ μ4 = μ3.put p (.lst [])) (fun R hR => ?_) fun d μ4 hS => ?_
    · (walk_at "dl")
      exact fun p hp => hR _ _ ⟨p, rfl, hp, rfl⟩
    obtain ⟨p, rfl, hp, rfl⟩ := hS
    have hdp : ∀ o : MO, (μ3.put p o) dr = some .draw := fun o => by rw [Mu.put_ne (Mu.ne_of hd hp)]; exact hd
    show sSeq _ _ _ [some (.ptr dr), some (eKeys sk), some (.int 4), some (.int many), some (.bl true), some (.lst (cs.map eKeys)), some (eTab tb), none, some (.ptr p), none] _
    refine step_forQ (fun i : Nat => D.int (0 + (i : Nat))) (fun l => l.length ≤ 60) (fun pre ρ' μ4 => (∃ i j, ρ' = [some (.ptr dr), some (eKeys sk), some (.int 4), some (.int many), some (.bl true), some (.lst (cs.map eKeys)), some (eTab tb), i, some (.ptr p), j]) ∧ ∃ ns : List Pc, ns.length ≤ pre.length ∧ (∀ q ∈ ns, okP q) ∧ μ4 = μ3.put p (.lst (ns.map ePc))) (fun R hR => ?_) ⟨⟨_, _, rfl⟩, [], Nat.le_refl _, by simp, rfl⟩ (fun l0 pre i post ρ' μ4 hG e2 hI E1 hrt1 hE1 => ?_) fun l0 ρ' μ4 hG hI => ?_
    · unfold iRg1
      (walk_at "dl")
      refine ⟨hdp _, by omega, by omega, fun y y0 y1 => ⟨⟨by omega, by omega⟩, hR (List.range y.toNat) ?_⟩⟩
      rw [List.length_range]; omega
    · obtain ⟨⟨x, y, rfl⟩, ns, hn, hov, rfl⟩ := hI
      have hpl : pre.length ≤ 60 := by
        have h := congrArg List.length e2
        rw [List.length_append] at h
        omega
      show sSeq _ _ E1 [some (.ptr dr), some (eKeys sk), some (.int 4), some (.int many), some (.bl true), some (.lst (cs.map eKeys)), some (eTab tb), some (.int (0 + (i : Int))), some (.ptr p), y] _
      (walk_at "dl")
      refine ⟨hdp _, sk, hs, tb, rfl, rfl, by omega, by omega, by omega, t2, fun pc opc o18 => ?_⟩
      (walk_at "dl")
      refine ⟨p, _, rfl, Mu.put_same, hdp _, by decide, by decide, fun y y0 y1 => ⟨p_i, ?_⟩⟩
      have fin : ∀ pc' : Pc, okP pc' → ∃ ds, (μ3.put p (.lst (ns.map ePc))) p = some (.lst ds) ∧ ds.length < sizeLine ∧ E1.nx [some (.ptr dr), some (eKeys sk), some (.int 4), some (.int many), some (.bl true), some (.lst (cs.map eKeys)), some (eTab tb), some (.int (0 + (i : Int))), some (.ptr p), some (ePc pc)] ((μ3.put p (.lst (ns.map ePc))).put p (.lst (ds ++ [ePc pc']))) := fun pc' ho' => by
        refine ⟨_, Mu.put_same, sz_small' (by rw [List.length_map]; omega), ?_⟩
        rw [Mu.put_put]
        refine hE1 _ _ ⟨⟨_, _, rfl⟩, ns ++ [pc'], by rw [List.length_append, List.length_append, List.length_singleton, List.length_singleton]; omega, fun q' hq' => ?_, by rw [List.map_append]; rfl⟩
        rcases List.mem_append.mp hq' with h | h
        · exact hov _ h
        · simp at h; subst h; exact ho'
      (walk_at "dl")
      by_cases hy : y = 0
      · rw [if_pos hy]
        exact ⟨hdp _, sk, hs, pc, rfl, rfl, opc, o18, fun pc' opc' => fin pc' opc'⟩
      · rw [if_neg hy]
        exact fin pc opc
    · obtain ⟨⟨x, y, rfl⟩, ns, hn, hov, rfl⟩ := hI
      refine ⟨p, _, rfl, Mu.put_same, ?_⟩
      rw [Mu.put_del hp]
      (walk_at "dl")
      exact hq ns (by omega) hov
  · exact h.elim
)

end
end K42
end

-- part EA
section
local macro_rules | `(tactic| walk_at "dl") => `(tactic| simp only [DL.sRet, DL.dJoined, DL.dJs, DL.dFmt, DL.dFld, DL.dMeth, DL.dMake, DL.sFld, DL.sFldI, DL.sSeq, DL.sSet, DL.sIf, DL.sNext, DL.sNever, DL.sDrop, DL.sAsg, DL.sRetN, DL.dVar, DL.dC, DL.dOp, DL.dTest, DL.dAnd, DL.dOr, DL.dNot, DL.dTru, DL.dAndV, DL.dOrV, DL.dNotV, DL.dIf, DL.aNil, DL.aCons, DL.dTup, DL.dLst, DL.dLstM, DL.dCall, DL.dFrz, DL.dB, DL.dNeg, DL.dSl, DL.oNone, DL.oSome, DL.dChn, DL.gN, DL.gT, DL.setAll, DL.fOf, DL.aNilX, DL.aConsX, DL.dTupX, DL.dLstMX, DL.dCallX, DL.dCallN, DL.dMethX, DL.xOf, DL.xNext, DL.xSeq, DL.xDrop, DL.xRet, DL.xIf, DL.xSet, DL.xFrz, DL.xApp, DL.xRaise, DL.dWix, DL.dWget, DL.optS,
  DL.ix_l, DL.ix_t, DL.ix_s, DL.ix_p, DL.add_i, DL.add_s, DL.add_l, DL.add_t, DL.mul_i, DL.mul_b, DL.sub_i, DL.fdiv_i, DL.mod_i, DL.pow_i, DL.shl_i, DL.shr_i, DL.and_i, DL.lt_i, DL.le_i, DL.gt_i, DL.ge_i, DL.le_s, DL.in_t, DL.in_l, DL.in_s, DL.len_l, DL.len_t, DL.len_s, DL.len_p, DL.list_l, DL.list_t, DL.list_s, DL.list_p, DL.tuple_l, DL.tuple_t, DL.int_i, DL.int_b, DL.abs_i, DL.max_i, DL.min_i, DL.all_l, DL.any_l, DL.isi_1, DL.isi_n, DL.sl_l, DL.sl_t, DL.sl_s, DL.neg_i, DL.isN_i, DL.notN_i, DL.eq_x, DL.ne_x,
  DL.w_wrote_many, DL.w_wrote_many_b, DL.w_wrote_among, DL.w_wrote_among_b, DL.w_wrote_did, DL.w_wrote_did_b, DL.w_wrote_times, DL.w_wrote_times_b, DL.w_wrote_value, DL.w_wrote_value_b, DL.w_wrote_head, DL.w_wrote_head_b, DL.w_many_wrote, DL.w_many_wrote_b, DL.w_many_among, DL.w_many_among_b, DL.w_many_did, DL.w_many_did_b, DL.w_many_times, DL.w_many_times_b, DL.w_many_value, DL.w_many_value_b, DL.w_many_head, DL.w_many_head_b, DL.w_among_wrote, DL.w_among_wrote_b, DL.w_among_many, DL.w_among_many_b, DL.w_among_did, DL.w_among_did_b, DL.w_among_times, DL.w_among_times_b, DL.w_among_value, DL.w_among_value_b, DL.w_among_head, DL.w_among_head_b, DL.w_did_wrote, DL.w_did_wrote_b, DL.w_did_many, DL.w_did_many_b, DL.w_did_among, DL.w_did_among_b, DL.w_did_times, DL.w_did_times_b, DL.w_did_value, DL.w_did_value_b, DL.w_did_head, DL.w_did_head_b, DL.w_times_wrote, DL.w_times_wrote_b, DL.w_times_many, DL.w_times_many_b, DL.w_times_among, DL.w_times_among_b, DL.w_times_did, DL.w_times_did_b, DL.w_times_value, DL.w_times_value_b, DL.w_times_head, DL.w_times_head_b, DL.w_value_wrote, DL.w_value_wrote_b, DL.w_value_many, DL.w_value_many_b, DL.w_value_among, DL.w_value_among_b, DL.w_value_did, DL.w_value_did_b, DL.w_value_times, DL.w_value_times_b, DL.w_value_head, DL.w_value_head_b, DL.w_head_wrote, DL.w_head_wrote_b, DL.w_head_many, DL.w_head_many_b, DL.w_head_among, DL.w_head_among_b, DL.w_head_did, DL.w_head_did_b, DL.w_head_times, DL.w_head_times_b, DL.w_head_value, DL.w_head_value_b,
  DL.q_ss, DL.q_ii, DL.q_bb, DL.q_nn, DL.q_tt, DL.q_ll, DL.q_si, DL.q_sn, DL.q_st, DL.q_sl, DL.q_is, DL.q_in, DL.q_it, DL.q_il, DL.q_ns, DL.q_ni, DL.q_nt, DL.q_nl, DL.q_ts, DL.q_ti, DL.q_tn, DL.q_tl, DL.q_ls, DL.q_li, DL.q_ln, DL.q_lt, DL.qs_nil, DL.qs_cons, DL.qs_nc, DL.qs_cn, DL.p_t16, DL.p_l16, DL.p_t15, DL.p_l15, DL.p_t14, DL.p_l14, DL.p_t13, DL.p_l13, DL.p_t12, DL.p_l12, DL.p_s, DL.p_i, DL.p_b, DL.p_n, DL.ps_nil, DL.ps_cons, DL.t_b, DL.t_i, DL.t_l, DL.t_t, DL.t_n, DL.n_n, DL.n_i, DL.n_s, DL.n_t, DL.n_l, DL.n_b, DL.f_s, DL.f_i,
  Bool.false_and, Bool.and_false, DL.z0, DL.z1, DL.z2, DL.z3, DL.z4, DL.z5, DL.z6, DL.z12,
  DL.startD, DL.sFrz, DL.sApp, DL.yesD, DL.lcTurn, DL.wipeE, DL.at0, DL.at1, DL.at2, DL.at3, DL.at4, List.map_cons, List.map_nil, List.replicate_succ, List.replicate_zero, List.length_cons, List.length_nil, List.cons_append, List.nil_append, List.set_cons_zero, List.set_cons_succ, List.getElem?_cons_zero, List.getElem?_cons_succ, Option.some.injEq, exists_eq_left, exists_eq_left', exists_eq', exists_eq, true_and, and_true, decide_eq_true_eq, if_true, if_false, Bool.false_eq_true, reduceIte, Nat.reduceAdd, Nat.reduceSub, DL.D.bl.injEq, DL.D.int.injEq, DL.D.str.injEq, DL.D.tup.injEq, DL.D.lst.injEq, DL.D.ptr.injEq, Bool.not_true, Bool.not_false, beq_self_eq_true, List.all_cons, List.all_nil, List.any_cons, List.any_nil, Bool.and_true, Bool.true_and, Bool.or_false, Bool.false_or, Bool.or_true, Bool.true_or, Bool.false_xor, Bool.true_xor, beq_iff_eq, Bool.not_eq_true, Int.reduceEq, Int.reduceBEq, and_self])

namespace K42
open PySem L2 DL
def okSame : Nat → D → Prop
  | _, .int _ => True
  | _, .str _ => True
  | n + 1, .lst ds => ds.length ≤ 1000 ∧ ∀ d ∈ ds, okSame n d
  | n + 1, .tup ds => ds.length ≤ 1000 ∧ ∀ d ∈ ds, okSame n d
  | _, _ => False
def C_same (n : Nat) : CT := fun ds μ Q => match ds with
  | [x, y] => x = y ∧ okSame n y ∧ Q (.bl true) μ
  | _ => False
section
variable {P : Program} {w : World} {K : PySem.W.Frag} {mg : Str → Option Value} {base : Heap}
theorem same_step (T : Tx K mg) (n : Nat) (ih : FnOk P w K mg base CX0 (n + 1) T.a__law_same T.d__law_same ["actual", "due"] (spD K (C_same n))) : FnOk P w K mg base CX0 (n + 2) T.a__law_same T.d__law_same ["actual", "due"] (spD K (C_same (n + 1))) :=
  DL.Fun.okD (k := n + 1) (N := ["actual", "due", "k"]) T.F__law_same sc__law_same (fun cdv A outer s H E hr => 
      (dss_cons (ds_if (dt_tru (de_B call_isiD cd_isi (by rfl) T.b_isinstance (by decide +kernel) (da_cons (dv 1) (da_cons (de_tup (da_cons (de_ty (n := "list") (by rfl) T.b_list (by decide +kernel)) (da_cons (de_ty (n := "tuple") (by rfl) T.b_tuple (by decide +kernel)) da_nil))) da_nil)))) 
      (dss_cons (ds_if (dw_pt (dw_or (dt_cmp (op_neD hr.units) od_ne (de_B call_isiD cd_isi (by rfl) T.b_isinstance (by decide +kernel) (da_cons (dv 1) (da_cons (de_ty (n := "list") (by rfl) T.b_list (by decide +kernel)) da_nil))) (de_B call_isiD cd_isi (by rfl) T.b_isinstance (by decide +kernel) (da_cons (dv 0) (da_cons (de_ty (n := "list") (by rfl) T.b_list (by decide +kernel)) da_nil))) (nomark _)) (dw_or1 (dt_cmp (op_neD hr.units) od_ne (de_B call_isiD cd_isi (by rfl) T.b_isinstance (by decide +kernel) (da_cons (dv 1) (da_cons (de_ty (n := "tuple") (by rfl) T.b_tuple (by decide +kernel)) da_nil))) (de_B call_isiD cd_isi (by rfl) T.b_isinstance (by decide +kernel) (da_cons (dv 0) (da_cons (de_ty (n := "tuple") (by rfl) T.b_tuple (by decide +kernel)) da_nil))) (nomark _))))) 
      (dss_one (ds_ret de_bl)) dss_nil) 
      (dss_cons (ds_if (dt_cmp (op_neD hr.units) od_ne (de_B L2.call_len cd_len (by rfl) T.b_len (by decide +kernel) (da_cons (dv 0) da_nil)) (de_B L2.call_len cd_len (by rfl) T.b_len (by decide +kernel) (da_cons (dv 1) da_nil)) (nomark _)) 
      (dss_one (ds_ret de_bl)) dss_nil) 
      (dss_one (ds_ret (de_B (cr_all rfl) cd_all (by rfl) T.b_all (by decide +kernel) (da_cons (de_lc [("k", 2)] rfl sc__law_same.nd (di_rg1 (by rfl) T.b_range (da_cons (de_B L2.call_len cd_len (by rfl) T.b_len (by decide +kernel) (da_cons (dv 1) da_nil)) da_nil)) (blkOk_by (sc := (defScope s__law_same)) (own := [("k", 2)]) (N := ["actual", "due", "k"]) (by decide +kernel)) (fun _ _ _ _ _ => (dg_name 2 sc__law_same.nd)) (fun _ _ _ _ _ => dts_nil) (fun _ _ _ _ _ => (de_call ih hr (by rfl) T.m__law_same T.k__law_same T.v__law_same pass0 (da_cons (de_ix ix_seq od_ix (dv 0) (dv 2) (fun _ _ => rfl)) (da_cons (de_ix ix_seq od_ix (dv 1) (dv 2) (fun _ _ => rfl)) da_nil))))) da_nil)))))) dss_nil) 
      (dss_cons (ds_if (dt_cmp op_isN od_isN (dv 1) de_non (nomark _)) 
      (dss_one (ds_ret (de_cmp op_isN od_isN (dv 0) de_non (nomark _)))) dss_nil) 
      (dss_cons (ds_if (dt_cmp (op_neD hr.units) od_ne (de_B call_isiD cd_isi (by rfl) T.b_isinstance (by decide +kernel) (da_cons (dv 1) (da_cons (de_ty (n := "bool") (by rfl) T.b_bool (by decide +kernel)) da_nil))) (de_B call_isiD cd_isi (by rfl) T.b_isinstance (by decide +kernel) (da_cons (dv 0) (da_cons (de_ty (n := "bool") (by rfl) T.b_bool (by decide +kernel)) da_nil))) (nomark _)) 
      (dss_one (ds_ret de_bl)) dss_nil) 
      (dss_cons (ds_if (dt_tru (de_B call_isiD cd_isi (by rfl) T.b_isinstance (by decide +kernel) (da_cons (dv 1) (da_cons (de_ty (n := "str") (by rfl) T.b_str (by decide +kernel)) da_nil)))) 
      (dss_one (ds_ret (de_and (de_B call_isiD cd_isi (by rfl) T.b_isinstance (by decide +kernel) (da_cons (dv 0) (da_cons (de_ty (n := "str") (by rfl) T.b_str (by decide +kernel)) da_nil))) (de_one (de_cmp (op_eqD hr.units) od_eq (dv 0) (dv 1) (nomark _)))))) dss_nil) 
      (dss_one (ds_ret (de_and (de_B call_isiD cd_isi (by rfl) T.b_isinstance (by decide +kernel) (da_cons (dv 0) (da_cons (de_ty (n := "int") (by rfl) T.b_int (by decide +kernel)) da_nil))) (de_one (de_cmp (op_eqD hr.units) od_eq (dv 0) (dv 1) (nomark _)))))))))))
    (by intro ds μ Q h; unfold C_same at h; split at h <;> first | rfl | exact h.elim) (by
  intro ds μ Q h
  unfold C_same at h
  split at h
  · rename_i ds' x y
    obtain ⟨rfl, ho, hq⟩ := h
    cases x <;> (try exact ho.elim) <;> (walk_at "dl")
    · refine ⟨"int", ["list", "tuple"], rfl, rfl, by decide, ?_⟩
      rw [if_neg (by decide)]
      refine ⟨"int", rfl, by decide, "int", rfl, by decide, ?_⟩
      rw [if_neg (by decide)]
      refine ⟨"int", rfl, by decide, ?_⟩
      rw [if_neg (by decide)]
      refine ⟨"int", rfl, by decide, ?_⟩
      rw [if_pos (by decide)]
      exact hq
    · refine ⟨"str", ["list", "tuple"], rfl, rfl, by decide, ?_⟩
      rw [if_neg (by decide)]
      refine ⟨"str", rfl, by decide, "str", rfl, by decide, ?_⟩
      rw [if_neg (by decide)]
      refine ⟨"str", rfl, by decide, ?_⟩
      rw [if_pos (by decide)]
      refine ⟨"str", rfl, by decide, ?_⟩
      rw [if_pos (by decide)]
      exact hq
    · rename_i es
      obtain ⟨hl, hall⟩ := ho
      refine ⟨"tuple", ["list", "tuple"], rfl, rfl, by decide, ?_⟩
      rw [if_pos (by decide)]
      refine ⟨"tuple", rfl, by decide, "tuple", rfl, by decide, ?_⟩
      rw [if_neg (by decide)]
      refine ⟨"tuple", rfl, by decide, "tuple", rfl, by decide, ?_⟩
      rw [if_neg (by decide)]
      refine lc_mapT (List.range es.length) (fun i : Nat => D.int (0 + (i : Nat))) (fun _ => .bl true) (fun R h => ?_) (fun i hi p acc hp N hN => ?_) ?_
      · refine rg1 (i := es.length) ⟨by omega, by omega⟩ (fun R h => ?_) R (by rw [Int.toNat_natCast]; exact h)
        (walk_at "dl")
        exact h
      · have hi' := List.mem_range.mp hi
        have e0 : (0 + (i : Int)).toNat = i := by omega
        (walk_at "dl")
        have ha : atI es (0 + (i : Int)) = some (es.getD i .non) := by rw [atG .non (by omega) (by omega), e0]
        have hm : es.getD i .non ∈ es := by rw [List.getD_eq_getElem?_getD, List.getElem?_eq_getElem (by omega)]; exact List.getElem_mem _
        refine ⟨_, ha, _, ha, rfl, hall _ hm, hN _ rfl⟩
      · (walk_at "dl")
        refine ⟨_, bls_map (fun _ => true) _, ?_⟩
        have ea : ((List.range es.length).map fun _ => true).all id = true := by rw [List.all_eq_true]; intro b hb; obtain ⟨_, _, rfl⟩ := List.mem_map.mp hb; rfl
        rw [ea]
        exact hq
    · rename_i es
      obtain ⟨hl, hall⟩ := ho
      refine ⟨"list", ["list", "tuple"], rfl, rfl, by decide, ?_⟩
      rw [if_pos (by decide)]
      refine ⟨"list", rfl, by decide, "list", rfl, by decide, ?_⟩
      rw [if_neg (by decide)]
      refine ⟨"list", rfl, by decide, "list", rfl, by decide, ?_⟩
      rw [if_neg (by decide)]
      refine lc_mapT (List.range es.length) (fun i : Nat => D.int (0 + (i : Nat))) (fun _ => .bl true) (fun R h => ?_) (fun i hi p acc hp N hN => ?_) ?_
      · refine rg1 (i := es.length) ⟨by omega, by omega⟩ (fun R h => ?_) R (by rw [Int.toNat_natCast]; exact h)
        (walk_at "dl")
        exact h
      · have hi' := List.mem_range.mp hi
        have e0 : (0 + (i : Int)).toNat = i := by omega
        (walk_at "dl")
        have ha : atI es (0 + (i : Int)) = some (es.getD i .non) := by rw [atG .non (by omega) (by omega), e0]
        have hm : es.getD i .non ∈ es := by rw [List.getD_eq_getElem?_getD, List.getElem?_eq_getElem (by omega)]; exact List.getElem_mem _
        refine ⟨_, ha, _, ha, rfl, hall _ hm, hN _ rfl⟩
      · (walk_at "dl")
        refine ⟨_, bls_map (fun _ => true) _, ?_⟩
        have ea : ((List.range es.length).map fun _ => true).all id = true := by rw [List.all_eq_true]; intro b hb; obtain ⟨_, _, rfl⟩ := List.mem_map.mp hb; rfl
        rw [ea]
        exact hq
  · exact h.elim)
theorem same_zero (T : Tx K mg) : FnOk P w K mg base CX0 1 T.a__law_same T.d__law_same ["actual", "due"] (spD K (C_same 0)) :=
  DL.Fun.okD (k := 0) (N := ["actual", "due", "k"]) T.F__law_same sc__law_same (fun cdv A outer s H E hr => 
      (dss_cons (ds_if (dt_tru (de_B call_isiD cd_isi (by rfl) T.b_isinstance (by decide +kernel) (da_cons (dv 1) (da_cons (de_tup (da_cons (de_ty (n := "list") (by rfl) T.b_list (by decide +kernel)) (da_cons (de_ty (n := "tuple") (by rfl) T.b_tuple (by decide +kernel)) da_nil))) da_nil)))) dss_never dss_nil) 
      (dss_cons (ds_if (dt_cmp op_isN od_isN (dv 1) de_non (nomark _)) 
      (dss_one (ds_ret (de_cmp op_isN od_isN (dv 0) de_non (nomark _)))) dss_nil) 
      (dss_cons (ds_if (dt_cmp (op_neD hr.units) od_ne (de_B call_isiD cd_isi (by rfl) T.b_isinstance (by decide +kernel) (da_cons (dv 1) (da_cons (de_ty (n := "bool") (by rfl) T.b_bool (by decide +kernel)) da_nil))) (de_B call_isiD cd_isi (by rfl) T.b_isinstance (by decide +kernel) (da_cons (dv 0) (da_cons (de_ty (n := "bool") (by rfl) T.b_bool (by decide +kernel)) da_nil))) (nomark _)) 
      (dss_one (ds_ret de_bl)) dss_nil) 
      (dss_cons (ds_if (dt_tru (de_B call_isiD cd_isi (by rfl) T.b_isinstance (by decide +kernel) (da_cons (dv 1) (da_cons (de_ty (n := "str") (by rfl) T.b_str (by decide +kernel)) da_nil)))) 
      (dss_one (ds_ret (de_and (de_B call_isiD cd_isi (by rfl) T.b_isinstance (by decide +kernel) (da_cons (dv 0) (da_cons (de_ty (n := "str") (by rfl) T.b_str (by decide +kernel)) da_nil))) (de_one (de_cmp (op_eqD hr.units) od_eq (dv 0) (dv 1) (nomark _)))))) dss_nil) 
      (dss_one (ds_ret (de_and (de_B call_isiD cd_isi (by rfl) T.b_isinstance (by decide +kernel) (da_cons (dv 0) (da_cons (de_ty (n := "int") (by rfl) T.b_int (by decide +kernel)) da_nil))) (de_one (de_cmp (op_eqD hr.units) od_eq (dv 0) (dv 1) (nomark _)))))))))))
    (by intro ds μ Q h; unfold C_same at h; split at h <;> first | rfl | exact h.elim) (by
  intro ds μ Q h
  unfold C_same at h
  split at h
  · rename_i ds' x y
    obtain ⟨rfl, ho, hq⟩ := h
    cases x <;> (try exact ho.elim) <;> (walk_at "dl")
    · refine ⟨"int", ["list", "tuple"], rfl, rfl, by decide, ?_⟩
      rw [if_neg (by decide)]
      refine ⟨"int", rfl, by decide, "int", rfl, by decide, ?_⟩
      rw [if_neg (by decide)]
      refine ⟨"int", rfl, by decide, ?_⟩
      rw [if_neg (by decide)]
      refine ⟨"int", rfl, by decide, ?_⟩
      rw [if_pos (by decide)]
      exact hq
    · refine ⟨"str", ["list", "tuple"], rfl, rfl, by decide, ?_⟩
      rw [if_neg (by decide)]
      refine ⟨"str", rfl, by decide, "str", rfl, by decide, ?_⟩
      rw [if_neg (by decide)]
      refine ⟨"str", rfl, by decide, ?_⟩
      rw [if_pos (by decide)]
      refine ⟨"str", rfl, by decide, ?_⟩
      rw [if_pos (by decide)]
      exact hq
  · exact h.elim)
theorem same_n (T : Tx K mg) : ∀ n, FnOk P w K mg base CX0 (n + 1) T.a__law_same T.d__law_same ["actual", "due"] (spD K (C_same n))
  | 0 => same_zero T
  | n + 1 => same_step T n (same_n T n)
def C__law_same : CT := C_same 4
theorem ok__law_same (T : Tx K mg) : FnOk P w K mg base CX0 6 T.a__law_same T.d__law_same ["actual", "due"] (spD K C__law_same) := (same_n T 4).mono (by decide)
end
end K42
end

-- part EB
section
local macro_rules | `(tactic| walk_at "dl") => `(tactic| simp only [DL.sRet, DL.dJoined, DL.dJs, DL.dFmt, DL.dFld, DL.dMeth, DL.dMake, DL.sFld, DL.sFldI, DL.sSeq, DL.sSet, DL.sIf, DL.sNext, DL.sNever, DL.sDrop, DL.sAsg, DL.sRetN, DL.dVar, DL.dC, DL.dOp, DL.dTest, DL.dAnd, DL.dOr, DL.dNot, DL.dTru, DL.dAndV, DL.dOrV, DL.dNotV, DL.dIf, DL.aNil, DL.aCons, DL.dTup, DL.dLst, DL.dLstM, DL.dCall, DL.dFrz, DL.dB, DL.dNeg, DL.dSl, DL.oNone, DL.oSome, DL.dChn, DL.gN, DL.gT, DL.setAll, DL.fOf, DL.aNilX, DL.aConsX, DL.dTupX, DL.dLstMX, DL.dCallX, DL.dCallN, DL.dMethX, DL.xOf, DL.xNext, DL.xSeq, DL.xDrop, DL.xRet, DL.xIf, DL.xSet, DL.xFrz, DL.xApp, DL.xRaise, DL.dWix, DL.dWget, DL.optS,
  DL.ix_l, DL.ix_t, DL.ix_s, DL.ix_p, DL.add_i, DL.add_s, DL.add_l, DL.add_t, DL.mul_i, DL.mul_b, DL.sub_i, DL.fdiv_i, DL.mod_i, DL.pow_i, DL.shl_i, DL.shr_i, DL.and_i, DL.lt_i, DL.le_i, DL.gt_i, DL.ge_i, DL.le_s, DL.in_t, DL.in_l, DL.in_s, DL.len_l, DL.len_t, DL.len_s, DL.len_p, DL.list_l, DL.list_t, DL.list_s, DL.list_p, DL.tuple_l, DL.tuple_t, DL.int_i, DL.int_b, DL.abs_i, DL.max_i, DL.min_i, DL.all_l, DL.any_l, DL.isi_1, DL.isi_n, DL.sl_l, DL.sl_t, DL.sl_s, DL.neg_i, DL.isN_i, DL.notN_i, DL.eq_x, DL.ne_x,
  DL.w_wrote_many, DL.w_wrote_many_b, DL.w_wrote_among, DL.w_wrote_among_b, DL.w_wrote_did, DL.w_wrote_did_b, DL.w_wrote_times, DL.w_wrote_times_b, DL.w_wrote_value, DL.w_wrote_value_b, DL.w_wrote_head, DL.w_wrote_head_b, DL.w_many_wrote, DL.w_many_wrote_b, DL.w_many_among, DL.w_many_among_b, DL.w_many_did, DL.w_many_did_b, DL.w_many_times, DL.w_many_times_b, DL.w_many_value, DL.w_many_value_b, DL.w_many_head, DL.w_many_head_b, DL.w_among_wrote, DL.w_among_wrote_b, DL.w_among_many, DL.w_among_many_b, DL.w_among_did, DL.w_among_did_b, DL.w_among_times, DL.w_among_times_b, DL.w_among_value, DL.w_among_value_b, DL.w_among_head, DL.w_among_head_b, DL.w_did_wrote, DL.w_did_wrote_b, DL.w_did_many, DL.w_did_many_b, DL.w_did_among, DL.w_did_among_b, DL.w_did_times, DL.w_did_times_b, DL.w_did_value, DL.w_did_value_b, DL.w_did_head, DL.w_did_head_b, DL.w_times_wrote, DL.w_times_wrote_b, DL.w_times_many, DL.w_times_many_b, DL.w_times_among, DL.w_times_among_b, DL.w_times_did, DL.w_times_did_b, DL.w_times_value, DL.w_times_value_b, DL.w_times_head, DL.w_times_head_b, DL.w_value_wrote, DL.w_value_wrote_b, DL.w_value_many, DL.w_value_many_b, DL.w_value_among, DL.w_value_among_b, DL.w_value_did, DL.w_value_did_b, DL.w_value_times, DL.w_value_times_b, DL.w_value_head, DL.w_value_head_b, DL.w_head_wrote, DL.w_head_wrote_b, DL.w_head_many, DL.w_head_many_b, DL.w_head_among, DL.w_head_among_b, DL.w_head_did, DL.w_head_did_b, DL.w_head_times, DL.w_head_times_b, DL.w_head_value, DL.w_head_value_b,
  DL.q_ss, DL.q_ii, DL.q_bb, DL.q_nn, DL.q_tt, DL.q_ll, DL.q_si, DL.q_sn, DL.q_st, DL.q_sl, DL.q_is, DL.q_in, DL.q_it, DL.q_il, DL.q_ns, DL.q_ni, DL.q_nt, DL.q_nl, DL.q_ts, DL.q_ti, DL.q_tn, DL.q_tl, DL.q_ls, DL.q_li, DL.q_ln, DL.q_lt, DL.qs_nil, DL.qs_cons, DL.qs_nc, DL.qs_cn, DL.p_t16, DL.p_l16, DL.p_t15, DL.p_l15, DL.p_t14, DL.p_l14, DL.p_t13, DL.p_l13, DL.p_t12, DL.p_l12, DL.p_s, DL.p_i, DL.p_b, DL.p_n, DL.ps_nil, DL.ps_cons, DL.t_b, DL.t_i, DL.t_l, DL.t_t, DL.t_n, DL.n_n, DL.n_i, DL.n_s, DL.n_t, DL.n_l, DL.n_b, DL.f_s, DL.f_i,
  Bool.false_and, Bool.and_false, DL.z0, DL.z1, DL.z2, DL.z3, DL.z4, DL.z5, DL.z6, DL.z12,
  DL.startD, DL.sFrz, DL.sApp, DL.yesD, DL.lcTurn, DL.wipeE, DL.at0, DL.at1, DL.at2, DL.at3, DL.at4, List.map_cons, List.map_nil, List.replicate_succ, List.replicate_zero, List.length_cons, List.length_nil, List.cons_append, List.nil_append, List.set_cons_zero, List.set_cons_succ, List.getElem?_cons_zero, List.getElem?_cons_succ, Option.some.injEq, exists_eq_left, exists_eq_left', exists_eq', exists_eq, true_and, and_true, decide_eq_true_eq, if_true, if_false, Bool.false_eq_true, reduceIte, Nat.reduceAdd, Nat.reduceSub, DL.D.bl.injEq, DL.D.int.injEq, DL.D.str.injEq, DL.D.tup.injEq, DL.D.lst.injEq, DL.D.ptr.injEq, Bool.not_true, Bool.not_false, beq_self_eq_true, List.all_cons, List.all_nil, List.any_cons, List.any_nil, Bool.and_true, Bool.true_and, Bool.or_false, Bool.false_or, Bool.or_true, Bool.true_or, Bool.false_xor, Bool.true_xor, beq_iff_eq, Bool.not_eq_true, Int.reduceEq, Int.reduceBEq, and_self])

namespace K42
open PySem L2 DL
/-- the words of a piece -/
def wordsP : Pc → List Str
  | .wrote v ks => "at" :: numS v :: "wrote" :: ks
  | .among v ks => "at" :: numS v :: "among" :: ks
  | .many v n => ["at", numS v, "many", numS n]
  | .did v k => ["at", numS v, "did", k]
  | .times k v n => ["by", numS v, "times", k, numS n]
  | .value k n x => ["write", numS n, "of", k, numS x]
  | .head v => ["head", numS v]
abbrev eToks (ts : List Str) : D := .lst (ts.map .str)
def isWd (s : Str) : Prop := s.cps.toList ≠ [] ∧ ∀ c ∈ s.cps.toList, isL c = true
def okTok (s : Str) : Prop := s.length ≤ 10 ∧ (s = ";" ∨ s = "-" ∨ s = "=" ∨ isWd s ∨ NumT s.cps.toList)
def C__law_tokens : CT := fun ds μ Q => match ds with
  | [p] => ∃ q : Pc, p = ePc q ∧ okP q ∧ Q (eToks (wordsP q)) μ
  | _ => False
def signs12 : List Str := [";", "at", "by", "a", "0", "21", "-1", "1000001", "abcdefghi", "-", "=", "of"]
def Chg (ts ts' : List Str) : Prop := ts' = ts ∨ ∃ k, k < ts.length ∧ (ts' = ts.take k ∨ ts' = ts.take k ++ ts.drop (k + 1) ∨ ∃ s ∈ signs12, ∃ e, (e = k ∨ e = k + 1) ∧ ts' = ts.take k ++ [s] ++ ts.drop e)
def C__law_changed : CT := fun ds μ Q => match ds with
  | [.ptr dr, t] => μ dr = some .draw ∧ ∃ ts : List Str, t = eToks ts ∧ ts.length ≤ 600 ∧ ∀ ts', Chg ts ts' → Q (eToks ts') μ
  | _ => False
def startOf (ts : List Str) : Nat → Nat
  | 0 => 0
  | k + 1 => if ts.getD k ⟨#[]⟩ ≠ ";" then startOf ts k else k + 1
def C__law_start_of : CT := fun ds μ Q => match ds with
  | [t, .int k] => ∃ (ts : List Str) (n : Nat), t = eToks ts ∧ k = n ∧ n ≤ ts.length ∧ Q (.int (startOf ts n : Nat)) μ
  | _ => False
theorem cut_lo {α : Type} (xs : List α) (n : Nat) : cutD xs none (some (n : Int)) = xs.take n := by
  unfold cutD
  rw [HT.sIx_nat, HT.sIx_none, List.drop_zero, Nat.sub_zero, List.take_eq_take_iff]
  omega
theorem cut_hi {α : Type} (xs : List α) (n : Nat) : cutD xs (some (n : Int)) none = xs.drop n := by
  unfold cutD
  rw [HT.sIx_nat, HT.sIx_none]
  by_cases h : n ≤ xs.length
  · rw [Nat.min_eq_left h, List.take_of_length_le (by rw [List.length_drop]; omega)]
  · rw [List.drop_eq_nil_of_le (by omega), List.drop_eq_nil_of_le (by omega)]
    simp
section
variable {P : Program} {w : World} {K : PySem.W.Frag} {mg : Str → Option Value} {base : Heap}
theorem ok__law_tokens (T : Tx K mg) : FnOk P w K mg base CX0 1 T.a__law_tokens T.d__law_tokens ["piece"] (spD K C__law_tokens) :=
  DL.Fun.okD (N := ["piece", "rest"]) T.F__law_tokens sc__law_tokens (fun cdv A outer s H E hr => 
      (dss_cons (ds_if (dt_cmp (op_eqD hr.units) od_eq (de_ix ix_seq od_ix (dv 0) de_int (fun _ _ => rfl)) (de_str) (nomark _)) 
      (dss_one (ds_ret (de_lst (da_cons (de_str) (da_cons (de_T call_strIS cd_str (by rfl) T.b_str (by decide +kernel) (da_cons (de_ix ix_seq od_ix (dv 0) de_int (fun _ _ => rfl)) da_nil)) (da_cons (de_str) (da_cons (de_ix ix_seq od_ix (dv 0) de_int (fun _ _ => rfl)) (da_cons (de_T call_strIS cd_str (by rfl) T.b_str (by decide +kernel) (da_cons (de_ix ix_seq od_ix (dv 0) de_int (fun _ _ => rfl)) da_nil)) da_nil)))))))) dss_nil) 
      (dss_cons (ds_if (dt_cmp (op_eqD hr.units) od_eq (de_ix ix_seq od_ix (dv 0) de_int (fun _ _ => rfl)) (de_str) (nomark _)) 
      (dss_one (ds_ret (de_lst (da_cons (de_str) (da_cons (de_T call_strIS cd_str (by rfl) T.b_str (by decide +kernel) (da_cons (de_ix ix_seq od_ix (dv 0) de_int (fun _ _ => rfl)) da_nil)) (da_cons (de_str) (da_cons (de_ix ix_seq od_ix (dv 0) de_int (fun _ _ => rfl)) (da_cons (de_T call_strIS cd_str (by rfl) T.b_str (by decide +kernel) (da_cons (de_ix ix_seq od_ix (dv 0) de_int (fun _ _ => rfl)) da_nil)) da_nil)))))))) dss_nil) 
      (dss_cons (ds_if (dt_cmp (op_eqD hr.units) od_eq (de_ix ix_seq od_ix (dv 0) de_int (fun _ _ => rfl)) (de_str) (nomark _)) 
      (dss_one (ds_ret (de_lst (da_cons (de_str) (da_cons (de_T call_strIS cd_str (by rfl) T.b_str (by decide +kernel) (da_cons (de_ix ix_seq od_ix (dv 0) de_int (fun _ _ => rfl)) da_nil)) da_nil))))) dss_nil) 
      (dss_cons (ds_set 1 sc__law_tokens.nd (de_if (dt_cmp op_inD2 od_in (de_ix ix_seq od_ix (dv 0) de_int (fun _ _ => rfl)) (de_tup (da_cons (de_str) (da_cons (de_str) da_nil))) (by rfl)) (de_T call_list_of cd_list (by rfl) T.b_list (by decide +kernel) (da_cons (de_ix ix_seq od_ix (dv 0) de_int (fun _ _ => rfl)) da_nil)) (de_lst (da_cons (de_T call_strIS cd_str (by rfl) T.b_str (by decide +kernel) (da_cons (de_ix ix_seq od_ix (dv 0) de_int (fun _ _ => rfl)) da_nil)) da_nil)))) 
      (dss_one (ds_ret (de_op op_addD od_add (de_lst (da_cons (de_str) (da_cons (de_T call_strIS cd_str (by rfl) T.b_str (by decide +kernel) (da_cons (de_ix ix_seq od_ix (dv 0) de_int (fun _ _ => rfl)) da_nil)) (da_cons (de_ix ix_seq od_ix (dv 0) de_int (fun _ _ => rfl)) da_nil)))) (dv 1)))))))))
    (by intro ds μ Q h; unfold C__law_tokens at h; split at h <;> first | rfl | exact h.elim) (by
  intro ds μ Q h
  unfold C__law_tokens at h
  split at h
  · obtain ⟨q, rfl, ho, hq⟩ := h
    have num : ∀ v : Int, -1000000 ≤ v ∧ v ≤ 1000000 → v.natAbs.log2 < 1920 ∧ SOk (Str.ofString (toString v)) := fun v hv => ⟨(num_sok (i := v) (by omega)).1, (num_sok (i := v) (by omega)).2.1⟩
    unfold okP at ho
    cases q with
    | wrote v ks =>
      have hk : ks.length ≤ 5 := ho.2.2.1
      unfold ePc
      (walk_at "dl")
      exact ⟨(num v (by omega)).1, (num v (by omega)).2, by rw [List.length_map]; exact sz_small (by show 3 + ks.length ≤ 10000; omega), hq⟩
    | among v ks =>
      have hk : ks.length ≤ 5 := ho.2.2.1
      unfold ePc
      (walk_at "dl")
      exact ⟨(num v (by omega)).1, (num v (by omega)).2, by rw [List.length_map]; exact sz_small (by show 3 + ks.length ≤ 10000; omega), hq⟩
    | many v n =>
      unfold ePc
      (walk_at "dl")
      exact ⟨(num n (by omega)).1, (num n (by omega)).2, (num v (by omega)).1, (num v (by omega)).2, hq⟩
    | did v k =>
      unfold ePc
      (walk_at "dl")
      exact ⟨(num v (by omega)).1, (num v (by omega)).2, hq⟩
    | times k v n =>
      unfold ePc
      (walk_at "dl")
      exact ⟨(num v (by omega)).1, (num v (by omega)).2, (num n (by omega)).1, (num n (by omega)).2, hq⟩
    | value k n x =>
      unfold ePc
      (walk_at "dl")
      exact ⟨(num n (by omega)).1, (num n (by omega)).2, (num x (by omega)).1, (num x (by omega)).2, hq⟩
    | head v =>
      unfold ePc
      (walk_at "dl")
      exact ⟨(num v (by omega)).1, (num v (by omega)).2, hq⟩
  · exact h.elim
)

theorem ok__law_start_of (T : Tx K mg) : FnOk P w K mg base CX0 1 T.a__law_start_of T.d__law_start_of ["tokens", "k"] (spD K C__law_start_of) :=
  DL.Fun.okD (N := ["tokens", "k"]) T.F__law_start_of sc__law_start_of (fun cdv A outer s H E hr => 
      (dss_cons (ds_while PassesOwn.never (dw_pt (dw_and (dt_cmp op_gtD od_gt (dv 1) de_int (nomark _)) (dw_and1 (dt_cmp (op_neD hr.units) od_ne (de_ix ix_seq od_ix (dv 0) (de_op op_sub od_sub (dv 1) de_int) (fun _ _ => rfl)) (de_str) (nomark _))))) 
      (dss_one (ds_set 1 sc__law_start_of.nd (de_op op_sub od_sub (dv 1) de_int)))) 
      (dss_one (ds_ret (dv 1)))))
    (by intro ds μ Q h; unfold C__law_start_of at h; split at h <;> first | rfl | exact h.elim) (by
  intro ds μ Q h
  unfold C__law_start_of at h
  split at h
  · obtain ⟨ts, n, rfl, rfl, hn, hq⟩ := h
    (walk_at "dl")
    refine ⟨fun m ρ' μ' => ρ' = [some (eToks ts), some (.int (m : Nat))] ∧ μ' = μ ∧ m ≤ ts.length ∧ startOf ts m = startOf ts n, ⟨n, rfl, rfl, hn, rfl⟩, ?_⟩
    rintro m ρ' μ' ⟨rfl, rfl, hm, hs⟩
    (walk_at "dl")
    cases m with
    | zero =>
      rw [if_neg (by decide)]
      rw [← hs] at hq
      exact hq
    | succ m =>
      rw [if_pos (by omega)]
      have e0 : ((m + 1 : Nat) : Int) - 1 = (m : Nat) := by omega
      have e1 : atI (ts.map D.str) (((m + 1 : Nat) : Int) - 1) = some (.str (ts.getD m ⟨#[]⟩)) := by rw [e0, atI_map, atG ⟨#[]⟩ (by omega) (by omega), Int.toNat_natCast]; rfl
      refine ⟨_, e1, ?_⟩
      (walk_at "dl")
      have hst : startOf ts (m + 1) = if ts.getD m ⟨#[]⟩ ≠ ";" then startOf ts m else m + 1 := rfl
      rw [hst] at hs
      by_cases hc : ts.getD m ⟨#[]⟩ = ";"
      · rw [if_neg (by rw [hc]; simp)] at hs
        rw [← hs] at hq
        rw [if_neg (by rw [hc]; simp)]
        exact hq
      · rw [if_pos hc] at hs
        rw [if_pos (by simpa using hc)]
        exact ⟨m, by omega, by rw [e0], by omega, hs⟩
  · exact h.elim
)

theorem ok__law_changed (T : Tx K mg) : FnOk P w K mg base CX0 2 T.a__law_changed T.d__law_changed ["draw", "tokens"] (spD K C__law_changed) :=
  DL.Fun.okD (N := ["draw", "tokens", "at", "form", "signs"]) T.F__law_changed sc__law_changed (fun cdv A outer s H E hr => 
      (dss_cons (ds_if (dw_pt (dw_or (dt_not (dt_tru (dv 1))) (dw_or1 (dt_cmp (op_eqD hr.units) od_eq (de_call (ok__law_next T) (hr.mono (by decide)) (by rfl) T.m__law_next T.k__law_next T.v__law_next pass0 (da_cons (dv 0) (da_cons de_int da_nil))) de_int (nomark _))))) 
      (dss_one (ds_ret (dv 1))) dss_nil) 
      (dss_cons (ds_set 2 sc__law_changed.nd (de_call (ok__law_next T) (hr.mono (by decide)) (by rfl) T.m__law_next T.k__law_next T.v__law_next pass0 (da_cons (dv 0) (da_cons (de_B L2.call_len cd_len (by rfl) T.b_len (by decide +kernel) (da_cons (dv 1) da_nil)) da_nil)))) 
      (dss_cons (ds_set 3 sc__law_changed.nd (de_call (ok__law_next T) (hr.mono (by decide)) (by rfl) T.m__law_next T.k__law_next T.v__law_next pass0 (da_cons (dv 0) (da_cons de_int da_nil)))) 
      (dss_cons (ds_if (dt_cmp (op_eqD hr.units) od_eq (dv 3) de_int (nomark _)) 
      (dss_one (ds_ret (de_sl (dv 1) do_none (do_some (dv 2))))) dss_nil) 
      (dss_cons (ds_if (dt_cmp (op_eqD hr.units) od_eq (dv 3) de_int (nomark _)) 
      (dss_one (ds_ret (de_op op_addD od_add (de_sl (dv 1) do_none (do_some (dv 2))) (de_sl (dv 1) (do_some (de_op op_addD od_add (dv 2) de_int)) do_none)))) dss_nil) 
      (dss_cons (ds_set 4 sc__law_changed.nd (de_lst (da_cons (de_str) (da_cons (de_str) (da_cons (de_str) (da_cons (de_str) (da_cons (de_str) (da_cons (de_str) (da_cons (de_str) (da_cons (de_str) (da_cons (de_str) (da_cons (de_str) (da_cons (de_str) (da_cons (de_str) da_nil)))))))))))))) 
      (dss_one (ds_ret (de_op op_addD od_add (de_op op_addD od_add (de_sl (dv 1) do_none (do_some (dv 2))) (de_lst (da_cons (de_ix ix_seq od_ix (dv 4) (de_call (ok__law_next T) (hr.mono (by decide)) (by rfl) T.m__law_next T.k__law_next T.v__law_next pass0 (da_cons (dv 0) (da_cons de_int da_nil))) (fun _ _ => rfl)) da_nil))) (de_sl (dv 1) (do_some (de_op op_sub od_sub (de_op op_addD od_add (dv 2) (dv 3)) de_int)) do_none)))))))))))
    (by intro ds μ Q h; unfold C__law_changed at h; split at h <;> first | rfl | exact h.elim) (by
  intro ds μ Q h
  unfold C__law_changed at h
  split at h
  · obtain ⟨hd, ts, rfl, hl, hq⟩ := h
    (walk_at "dl")
    have hs0 : 0 ≤ ts.length := Nat.zero_le _
    by_cases he : ts = []
    · subst he
      rw [if_pos (by rfl)]
      exact hq [] (.inl rfl)
    · have hpos : 0 < ts.length := List.length_pos_iff.mpr he
      rw [if_neg (by cases ts with | nil => exact absurd rfl he | cons a l => simp)]
      refine ⟨hd, by decide, by decide, fun x x0 x1 => ⟨p_i, ?_⟩⟩
      rw [q_ii]
      by_cases hx : x = 0
      · rw [if_pos (by simp [hx])]
        exact hq ts (.inl rfl)
      · rw [if_neg (by simp [hx])]
        refine ⟨hd, by rw [List.length_map]; omega, by rw [List.length_map]; omega, fun k k0 k1 => ?_⟩
        rw [List.length_map] at k1
        obtain ⟨n, rfl⟩ := Int.eq_ofNat_of_zero_le k0
        refine ⟨hd, by decide, by decide, fun f f0 f1 => ⟨p_i, ?_⟩⟩
        have et : cutD (ts.map D.str) none (some (n : Int)) = (ts.take n).map D.str := by rw [cut_lo, List.map_take]
        have ed : ∀ e : Nat, cutD (ts.map D.str) (some (e : Int)) none = (ts.drop e).map D.str := fun e => by rw [cut_hi, List.map_drop]
        rw [q_ii]
        by_cases h0 : f = 0
        · rw [if_pos (by simp [h0])]
          refine ⟨n, rfl, ?_⟩
          rw [et]
          exact hq _ (.inr ⟨n, by omega, .inl rfl⟩)
        · rw [if_neg (by simp [h0])]
          refine ⟨p_i, ?_⟩
          rw [q_ii]
          by_cases h1 : f = 1
          · rw [if_pos (by simp [h1])]
            refine ⟨n, rfl, (n : Int) + 1, rfl, ?_⟩
            rw [et, show (n : Int) + 1 = ((n + 1 : Nat) : Int) by omega, ed]
            refine ⟨by rw [List.length_map, List.length_map, List.length_take, List.length_drop]; exact sz_small (by omega), ?_⟩
            rw [← List.map_append]
            exact hq _ (.inr ⟨n, by omega, .inr (.inl rfl)⟩)
          · rw [if_neg (by simp [h1])]
            refine ⟨n, rfl, hd, by decide, by decide, fun y y0 y1 => ?_⟩
            have h12 : signs12.length = 12 := rfl
            have ey : atI (signs12.map D.str) y = some (.str (signs12.getD y.toNat ⟨#[]⟩)) := by rw [atI_map, atG ⟨#[]⟩ y0 (by omega)]; rfl
            have hmem : signs12.getD y.toNat ⟨#[]⟩ ∈ signs12 := by rw [List.getD_eq_getElem?_getD, List.getElem?_eq_getElem (by omega)]; exact List.getElem_mem _
            refine ⟨_, ey, ?_⟩
            rw [et]
            have fin : ∀ e : Nat, (e = n ∨ e = n + 1) → (((ts.take n).map D.str ++ [D.str (signs12.getD y.toNat ⟨#[]⟩)]).length + ((ts.drop e).map D.str).length ≤ sizeLine ∧ Q (.lst (((ts.take n).map D.str ++ [D.str (signs12.getD y.toNat ⟨#[]⟩)]) ++ (ts.drop e).map D.str)) μ) := fun e he2 => by
              refine ⟨by rw [List.length_append, List.length_map, List.length_map, List.length_take, List.length_drop]; exact sz_small (by simp; omega), ?_⟩
              have := hq (ts.take n ++ [signs12.getD y.toNat ⟨#[]⟩] ++ ts.drop e) (.inr ⟨n, by omega, .inr (.inr ⟨_, hmem, e, he2, rfl⟩)⟩)
              unfold eToks at this
              rw [List.map_append, List.map_append] at this
              exact this
            refine ⟨by rw [List.length_map, List.length_take]; exact sz_small (by omega), ?_⟩
            have hf : f = 2 ∨ f = 3 := by omega
            rcases hf with rfl | rfl
            · (walk_at "dl")
              have e9 : (n : Int) + 2 - 2 = (n : Int) := by omega
              rw [e9]
              rw [ed]
              exact fin n (.inl rfl)
            · (walk_at "dl")
              have e9 : (n : Int) + 3 - 2 = ((n + 1 : Nat) : Int) := by omega
              rw [e9]
              rw [ed]
              exact fin (n + 1) (.inr rfl)
  · exact h.elim
)
end
end K42
end

-- part EC
section
local macro_rules | `(tactic| walk_at "dl") => `(tactic| simp only [DL.sRet, DL.dJoined, DL.dJs, DL.dFmt, DL.dFld, DL.dMeth, DL.dMake, DL.sFld, DL.sFldI, DL.sSeq, DL.sSet, DL.sIf, DL.sNext, DL.sNever, DL.sDrop, DL.sAsg, DL.sRetN, DL.dVar, DL.dC, DL.dOp, DL.dTest, DL.dAnd, DL.dOr, DL.dNot, DL.dTru, DL.dAndV, DL.dOrV, DL.dNotV, DL.dIf, DL.aNil, DL.aCons, DL.dTup, DL.dLst, DL.dLstM, DL.dCall, DL.dFrz, DL.dB, DL.dNeg, DL.dSl, DL.oNone, DL.oSome, DL.dChn, DL.gN, DL.gT, DL.setAll, DL.fOf, DL.aNilX, DL.aConsX, DL.dTupX, DL.dLstMX, DL.dCallX, DL.dCallN, DL.dMethX, DL.xOf, DL.xNext, DL.xSeq, DL.xDrop, DL.xRet, DL.xIf, DL.xSet, DL.xFrz, DL.xApp, DL.xRaise, DL.dWix, DL.dWget, DL.optS,
  DL.ix_l, DL.ix_t, DL.ix_s, DL.ix_p, DL.add_i, DL.add_s, DL.add_l, DL.add_t, DL.mul_i, DL.mul_b, DL.sub_i, DL.fdiv_i, DL.mod_i, DL.pow_i, DL.shl_i, DL.shr_i, DL.and_i, DL.lt_i, DL.le_i, DL.gt_i, DL.ge_i, DL.le_s, DL.in_t, DL.in_l, DL.in_s, DL.len_l, DL.len_t, DL.len_s, DL.len_p, DL.list_l, DL.list_t, DL.list_s, DL.list_p, DL.tuple_l, DL.tuple_t, DL.int_i, DL.int_b, DL.abs_i, DL.max_i, DL.min_i, DL.all_l, DL.any_l, DL.isi_1, DL.isi_n, DL.sl_l, DL.sl_t, DL.sl_s, DL.neg_i, DL.isN_i, DL.notN_i, DL.eq_x, DL.ne_x,
  DL.w_wrote_many, DL.w_wrote_many_b, DL.w_wrote_among, DL.w_wrote_among_b, DL.w_wrote_did, DL.w_wrote_did_b, DL.w_wrote_times, DL.w_wrote_times_b, DL.w_wrote_value, DL.w_wrote_value_b, DL.w_wrote_head, DL.w_wrote_head_b, DL.w_many_wrote, DL.w_many_wrote_b, DL.w_many_among, DL.w_many_among_b, DL.w_many_did, DL.w_many_did_b, DL.w_many_times, DL.w_many_times_b, DL.w_many_value, DL.w_many_value_b, DL.w_many_head, DL.w_many_head_b, DL.w_among_wrote, DL.w_among_wrote_b, DL.w_among_many, DL.w_among_many_b, DL.w_among_did, DL.w_among_did_b, DL.w_among_times, DL.w_among_times_b, DL.w_among_value, DL.w_among_value_b, DL.w_among_head, DL.w_among_head_b, DL.w_did_wrote, DL.w_did_wrote_b, DL.w_did_many, DL.w_did_many_b, DL.w_did_among, DL.w_did_among_b, DL.w_did_times, DL.w_did_times_b, DL.w_did_value, DL.w_did_value_b, DL.w_did_head, DL.w_did_head_b, DL.w_times_wrote, DL.w_times_wrote_b, DL.w_times_many, DL.w_times_many_b, DL.w_times_among, DL.w_times_among_b, DL.w_times_did, DL.w_times_did_b, DL.w_times_value, DL.w_times_value_b, DL.w_times_head, DL.w_times_head_b, DL.w_value_wrote, DL.w_value_wrote_b, DL.w_value_many, DL.w_value_many_b, DL.w_value_among, DL.w_value_among_b, DL.w_value_did, DL.w_value_did_b, DL.w_value_times, DL.w_value_times_b, DL.w_value_head, DL.w_value_head_b, DL.w_head_wrote, DL.w_head_wrote_b, DL.w_head_many, DL.w_head_many_b, DL.w_head_among, DL.w_head_among_b, DL.w_head_did, DL.w_head_did_b, DL.w_head_times, DL.w_head_times_b, DL.w_head_value, DL.w_head_value_b,
  DL.q_ss, DL.q_ii, DL.q_bb, DL.q_nn, DL.q_tt, DL.q_ll, DL.q_si, DL.q_sn, DL.q_st, DL.q_sl, DL.q_is, DL.q_in, DL.q_it, DL.q_il, DL.q_ns, DL.q_ni, DL.q_nt, DL.q_nl, DL.q_ts, DL.q_ti, DL.q_tn, DL.q_tl, DL.q_ls, DL.q_li, DL.q_ln, DL.q_lt, DL.qs_nil, DL.qs_cons, DL.qs_nc, DL.qs_cn, DL.p_t16, DL.p_l16, DL.p_t15, DL.p_l15, DL.p_t14, DL.p_l14, DL.p_t13, DL.p_l13, DL.p_t12, DL.p_l12, DL.p_s, DL.p_i, DL.p_b, DL.p_n, DL.ps_nil, DL.ps_cons, DL.t_b, DL.t_i, DL.t_l, DL.t_t, DL.t_n, DL.n_n, DL.n_i, DL.n_s, DL.n_t, DL.n_l, DL.n_b, DL.f_s, DL.f_i,
  Bool.false_and, Bool.and_false, DL.z0, DL.z1, DL.z2, DL.z3, DL.z4, DL.z5, DL.z6, DL.z12,
  DL.startD, DL.sFrz, DL.sApp, DL.yesD, DL.lcTurn, DL.wipeE, DL.at0, DL.at1, DL.at2, DL.at3, DL.at4, List.map_cons, List.map_nil, List.replicate_succ, List.replicate_zero, List.length_cons, List.length_nil, List.cons_append, List.nil_append, List.set_cons_zero, List.set_cons_succ, List.getElem?_cons_zero, List.getElem?_cons_succ, Option.some.injEq, exists_eq_left, exists_eq_left', exists_eq', exists_eq, true_and, and_true, decide_eq_true_eq, if_true, if_false, Bool.false_eq_true, reduceIte, Nat.reduceAdd, Nat.reduceSub, DL.D.bl.injEq, DL.D.int.injEq, DL.D.str.injEq, DL.D.tup.injEq, DL.D.lst.injEq, DL.D.ptr.injEq, Bool.not_true, Bool.not_false, beq_self_eq_true, List.all_cons, List.all_nil, List.any_cons, List.any_nil, Bool.and_true, Bool.true_and, Bool.or_false, Bool.false_or, Bool.or_true, Bool.true_or, Bool.false_xor, Bool.true_xor, beq_iff_eq, Bool.not_eq_true, Int.reduceEq, Int.reduceBEq, and_self])

namespace K42
open PySem L2 DL
inductive Sx where
  | start | verAt | verBy | write | numH | numM | numT | numO | kind | keys | key | namedT | namedO | times | of | more | behind
  deriving DecidableEq
def stS : Sx → Str
  | .start => "start" | .verAt => "version at" | .verBy => "version by" | .write => "write" | .numH => "number" | .numM => "number" | .numT => "number" | .numO => "number" | .kind => "kind" | .keys => "keys" | .key => "key"
  | .namedT => "named" | .namedO => "named" | .times => "times" | .of => "of" | .more => "more" | .behind => "behind"
def c0 (t : Str) : Nat := t.cps.toList.headD 0
def numb (t : Str) : Bool := (decide (c0 t = 45) || isD (c0 t)) && decide (t ≠ "-")
def wordK (t : Str) : Bool := isL (c0 t) && decide (t.length ≤ 8)
def nx : Sx → Str → Option Sx
  | .verAt, t => if numb t = true then some .kind else none
  | .verBy, t => if numb t = true then some .times else none
  | .write, t => if numb t = true then some .of else none
  | .numH, t => if numb t = true then some .behind else none
  | .numM, t => if numb t = true then some .behind else none
  | .numT, t => if numb t = true then some .behind else none
  | .numO, t => if numb t = true then some .behind else none
  | .start, t => if t = "at" then some .verAt else if t = "by" then some .verBy else if t = "write" then some .write else if t = "head" then some .numH else none
  | .times, t => if t = "times" then some .namedT else none
  | .of, t => if t = "of" then some .namedO else none
  | .kind, t => if t = "wrote" then some .keys else if t = "among" then some .keys else if t = "many" then some .numM else if t = "did" then some .key else none
  | .keys, t => if wordK t = true then some .more else none
  | .key, t => if wordK t = true then some .behind else none
  | .namedT, t => if wordK t = true then some .numT else none
  | .namedO, t => if wordK t = true then some .numO else none
  | .more, t => if wordK t = true then some .more else if t = ";" then some .start else none
  | .behind, t => if t = ";" then some .start else none
def C__law_next_states : CT := fun ds μ Q => match ds with
  | [.str s, .str t] => ∃ x : Sx, s = stS x ∧ okTok t ∧ Q (optS ((nx x t).map stS)) μ
  | _ => False
theorem le_sign (a c : Nat) : (!decide ((⟨#[c]⟩ : Str).cps.toList < (⟨#[a]⟩ : Str).cps.toList)) = decide (a ≤ c) := by
  have h : (([c] : List Nat) < [a]) ↔ c < a := by
    constructor
    · intro h
      cases h with
      | rel h => exact h
      | cons h => cases h
    · intro h
      exact List.Lex.rel h
  have h2 : decide ((⟨#[c]⟩ : Str).cps.toList < (⟨#[a]⟩ : Str).cps.toList) = decide (c < a) := decide_eq_decide.mpr h
  rw [h2, ← decide_not, decide_eq_decide]
  omega
theorem le_a (c : Nat) : (!decide ([c] < (Str.ofString "a").cps.toList)) = decide (97 ≤ c) := le_sign 97 c
theorem le_z (c : Nat) : (!decide ((Str.ofString "z").cps.toList < [c])) = decide (c ≤ 122) := le_sign c 122
theorem in_num (c : Nat) : (!(Builtin.Str.occurrences (Str.ofString "-0123456789") { cps := #[c] } 0 (Str.ofString "-0123456789").length 1).isEmpty) = (decide (c = 45) || isD c) := by
  rw [in_sign]
  have e : (Str.ofString "-0123456789").cps.toList = 45 :: List.range' 48 10 := by decide +kernel
  rw [e, Bool.eq_iff_iff]
  simp [isD, List.mem_range'_1]
  omega
theorem tok_ne {t : Str} (h : okTok t) : ∃ l, t.cps.toList = c0 t :: l := by
  have : t.cps.toList ≠ [] := by
    rcases h.2 with rfl | rfl | rfl | h | h
    · decide +kernel
    · decide +kernel
    · decide +kernel
    · exact h.1
    · obtain ⟨neg, ds, e, _, hne, _⟩ := h
      rw [e]
      intro h2
      exact hne (List.append_eq_nil_iff.mp h2).2
  unfold c0
  cases e : t.cps.toList with
  | nil => exact absurd e this
  | cons a l => exact ⟨l, rfl⟩
theorem tok_at {t : Str} (h : okTok t) : atI t.cps.toList 0 = some (c0 t) := by
  obtain ⟨l, e⟩ := tok_ne h
  rw [e]; exact at0
theorem ite_t {c : Prop} [Decidable c] {A B : Prop} (h : c) (a : A) : if c then A else B := by rw [if_pos h]; exact a
theorem ite_f {c : Prop} [Decidable c] {A B : Prop} (h : ¬ c) (b : B) : if c then A else B := by rw [if_neg h]; exact b
theorem key_go {x y : Sx} {t s : Str} {μ : Mu} {Q : D → Mu → Prop} {kvs : List (Str × Str)} {C E : Prop} (e : nx x t = if wordK t = true then some y else none) (hq : Q (optS ((nx x t).map stS)) μ) (hl : kvs.lookup s = some (stS y)) (hC : Q D.non μ → C) (hE : Q D.non μ → E) :
    if isL (c0 t) = true then (if (t.length : Int) ≤ 8 then (∃ s' v, s = s' ∧ List.lookup s' kvs = some v ∧ Q (D.str v) μ) else C) else E := by
  rw [e] at hq
  by_cases h1 : isL (c0 t) = true
  · refine ite_t h1 ?_
    by_cases h8 : t.length ≤ 8
    · refine ite_t (by omega) ?_
      rw [if_pos (by unfold wordK; rw [h1, decide_eq_true h8]; rfl)] at hq
      exact ⟨_, _, rfl, hl, hq⟩
    · refine ite_f (by omega) (hC ?_)
      rw [if_neg (by unfold wordK; rw [decide_eq_false h8, Bool.and_false]; decide)] at hq
      exact hq
  · refine ite_f h1 (hE ?_)
    rw [if_neg (by unfold wordK; rw [Bool.not_eq_true] at h1; rw [h1]; simp)] at hq
    exact hq
theorem num_go {x y : Sx} {t s : Str} {μ : Mu} {Q : D → Mu → Prop} {kvs : List (Str × Str)} (e : nx x t = if numb t = true then some y else none) (hq : Q (optS ((nx x t).map stS)) μ) (hl : kvs.lookup s = some (stS y)) :
    if numb t = true then (∃ s' v, s = s' ∧ List.lookup s' kvs = some v ∧ Q (D.str v) μ) else Q D.non μ := by
  rw [e] at hq
  split
  · rename_i h; rw [if_pos h] at hq; exact ⟨_, _, rfl, hl, hq⟩
  · rename_i h; rw [if_neg h] at hq; exact hq
section
variable {P : Program} {w : World} {K : PySem.W.Frag} {mg : Str → Option Value} {base : Heap}
theorem ok__law_next_states (T : Tx K mg) : FnOk P w K mg base CX0 1 T.a__law_next_states T.d__law_next_states ["state", "token"] (spD K C__law_next_states) :=
  DL.Fun.okD (N := ["state", "token", "number", "word"]) T.F__law_next_states sc__law_next_states (fun cdv A outer s H E hr => 
      (dss_cons (ds_set 2 sc__law_next_states.nd (de_and (de_cmp op_inD2 od_in (de_ix ix_seq od_ix (dv 1) de_int (fun _ _ => rfl)) (de_str) (by rfl)) (de_one (de_cmp (op_neD hr.units) od_ne (dv 1) (de_str) (nomark _))))) 
      (dss_cons (ds_set 3 sc__law_next_states.nd (de_chain op_leD op_leD od_le od_le (de_str) (de_ix ix_seq od_ix (dv 1) de_int (fun _ _ => rfl)) (de_str))) 
      (dss_cons (ds_if (dt_cmp op_inD2 od_in (dv 0) (de_tup (da_cons (de_str) (da_cons (de_str) (da_cons (de_str) da_nil)))) (by rfl)) 
      (dss_one (ds_ret (de_if (dt_tru (dv 2)) (de_wix (kvs := [("version at", "kind"), ("number", "behind"), ("last number", "behind")]) hr (.cons (.cons (.cons .nil))) (by decide +kernel) (by decide +kernel) (dv 0) (fun _ _ => rfl) (by simp) (by decide) (by decide)) de_non))) dss_nil) 
      (dss_cons (ds_if (dt_cmp (op_eqD hr.units) od_eq (dv 0) (de_str) (nomark _)) 
      (dss_one (ds_ret (de_wget (kvs := [("at", "version at"), ("by", "version by"), ("write", "write"), ("head", "number")]) hr (.cons (.cons (.cons (.cons .nil)))) (by decide +kernel) (by decide +kernel) (dv 1) (by simp) (by decide) (by decide)))) dss_nil) 
      (dss_cons (ds_if (dt_cmp op_inD2 od_in (dv 0) (de_tup (da_cons (de_str) (da_cons (de_str) da_nil))) (by rfl)) 
      (dss_one (ds_ret (de_if (dt_tru (dv 2)) (de_wix (kvs := [("version by", "times"), ("write", "of")]) hr (.cons (.cons .nil)) (by decide +kernel) (by decide +kernel) (dv 0) (fun _ _ => rfl) (by simp) (by decide) (by decide)) de_non))) dss_nil) 
      (dss_cons (ds_if (dt_cmp op_inD2 od_in (dv 0) (de_tup (da_cons (de_str) (da_cons (de_str) da_nil))) (by rfl)) 
      (dss_one (ds_ret (de_if (dt_cmp (op_eqD hr.units) od_eq (dv 1) (dv 0) (nomark _)) (de_str) de_non))) dss_nil) 
      (dss_cons (ds_if (dt_cmp (op_eqD hr.units) od_eq (dv 0) (de_str) (nomark _)) 
      (dss_one (ds_ret (de_wget (kvs := [("wrote", "keys"), ("among", "keys"), ("many", "number"), ("did", "key")]) hr (.cons (.cons (.cons (.cons .nil)))) (by decide +kernel) (by decide +kernel) (dv 1) (by simp) (by decide) (by decide)))) dss_nil) 
      (dss_cons (ds_if (dt_cmp op_inD2 od_in (dv 0) (de_tup (da_cons (de_str) (da_cons (de_str) (da_cons (de_str) (da_cons (de_str) da_nil))))) (by rfl)) 
      (dss_cons (ds_if (dw_pt (dw_and (dt_tru (dv 3)) (dw_and1 (dt_cmp op_leD od_le (de_B L2.call_len cd_len (by rfl) T.b_len (by decide +kernel) (da_cons (dv 1) da_nil)) de_int (nomark _))))) 
      (dss_one (ds_ret (de_wix (kvs := [("keys", "more"), ("key", "behind"), ("named", "number"), ("more", "more")]) hr (.cons (.cons (.cons (.cons .nil)))) (by decide +kernel) (by decide +kernel) (dv 0) (fun _ _ => rfl) (by simp) (by decide) (by decide)))) dss_nil) 
      (dss_one (ds_ret (de_if (dw_pt (dw_and (dt_cmp (op_eqD hr.units) od_eq (dv 0) (de_str) (nomark _)) (dw_and1 (dt_cmp (op_eqD hr.units) od_eq (dv 1) (de_str) (nomark _))))) (de_str) de_non)))) dss_nil) 
      (dss_one (ds_ret (de_if (dt_cmp (op_eqD hr.units) od_eq (dv 1) (de_str) (nomark _)) (de_str) de_non))))))))))))
    (by intro ds μ Q h; unfold C__law_next_states at h; split at h <;> first | rfl | exact h.elim) (by
  intro ds μ Q h
  unfold C__law_next_states at h
  split at h
  · rename_i ds' s t
    obtain ⟨x, rfl, ht, hq⟩ := h
    have hat := tok_at ht
    refine step_set (fun d μ' => d = .bl (numb t) ∧ μ = μ') (fun R hR => ?_) fun d μ' hS => ?_
    · (walk_at "dl")
      simp only [hat, Option.some.injEq, exists_eq_left', in_num]
      unfold numb at hR
      split
      · rename_i hc
        rw [hc] at hR
        have e : (!t == Str.ofString "-") = decide (t ≠ Str.ofString "-") := by
          by_cases h : t = Str.ofString "-" <;> simp [h]
        rw [e]
        exact hR _ _ ⟨rfl, rfl⟩
      · rename_i hc
        rw [Bool.not_eq_true] at hc
        rw [hc] at hR
        exact hR _ _ ⟨rfl, rfl⟩
    obtain ⟨rfl, rfl⟩ := hS
    refine step_set (fun d μ' => d = .bl (isL (c0 t)) ∧ μ = μ') (fun R hR => ?_) fun d μ' hS => ?_
    · (walk_at "dl")
      simp only [hat, Option.some.injEq, exists_eq_left', le_a, le_z]
      unfold isL at hR
      split
      · rename_i hc
        rw [hc] at hR
        exact hR _ _ ⟨rfl, rfl⟩
      · rename_i hc
        rw [Bool.not_eq_true] at hc
        rw [hc] at hR
        exact hR _ _ ⟨rfl, rfl⟩
    obtain ⟨rfl, rfl⟩ := hS
    show sSeq _ _ _ [some (.str (stS x)), some (.str t), some (.bl (numb t)), some (.bl (isL (c0 t)))] _
    have hle : decide ((t.length : Int) ≤ 8) = decide (t.length ≤ 8) := by rw [decide_eq_decide]; omega
    (walk_at "dl")
    cases x <;> simp only [stS] <;> repeat (first | refine ite_t (by decide +kernel) ?_ | refine ite_f (by decide +kernel) ?_)
    case start =>
      have e : nx .start t = if t = "at" then some .verAt else if t = "by" then some .verBy else if t = "write" then some .write else if t = "head" then some .numH else none := rfl
      rw [e] at hq
      simp only [List.lookup_cons, List.lookup_nil]
      by_cases h1 : t = "at"
      · rw [if_pos h1] at hq; subst h1; exact hq
      · rw [if_neg h1] at hq
        rw [beq_eq_false_iff_ne.mpr h1]
        by_cases h2 : t = "by"
        · rw [if_pos h2] at hq; subst h2; exact hq
        · rw [if_neg h2] at hq
          rw [beq_eq_false_iff_ne.mpr h2]
          by_cases h3 : t = "write"
          · rw [if_pos h3] at hq; subst h3; exact hq
          · rw [if_neg h3] at hq
            rw [beq_eq_false_iff_ne.mpr h3]
            by_cases h4 : t = "head"
            · rw [if_pos h4] at hq; subst h4; exact hq
            · rw [if_neg h4] at hq
              rw [beq_eq_false_iff_ne.mpr h4]
              exact hq
    case kind =>
      have e : nx .kind t = if t = "wrote" then some .keys else if t = "among" then some .keys else if t = "many" then some .numM else if t = "did" then some .key else none := rfl
      rw [e] at hq
      simp only [List.lookup_cons, List.lookup_nil]
      by_cases h1 : t = "wrote"
      · rw [if_pos h1] at hq; subst h1; exact hq
      · rw [if_neg h1] at hq
        rw [beq_eq_false_iff_ne.mpr h1]
        by_cases h2 : t = "among"
        · rw [if_pos h2] at hq; subst h2; exact hq
        · rw [if_neg h2] at hq
          rw [beq_eq_false_iff_ne.mpr h2]
          by_cases h3 : t = "many"
          · rw [if_pos h3] at hq; subst h3; exact hq
          · rw [if_neg h3] at hq
            rw [beq_eq_false_iff_ne.mpr h3]
            by_cases h4 : t = "did"
            · rw [if_pos h4] at hq; subst h4; exact hq
            · rw [if_neg h4] at hq
              rw [beq_eq_false_iff_ne.mpr h4]
              exact hq
    case behind =>
      have e : nx .behind t = if t = ";" then some .start else none := rfl
      rw [e] at hq
      split
      · rename_i h; rw [if_pos h] at hq; exact hq
      · rename_i h; rw [if_neg h] at hq; exact hq
    case times =>
      have e : nx .times t = if t = "times" then some .namedT else none := rfl
      rw [e] at hq
      by_cases h : t = "times"
      · rw [if_pos h] at hq; exact ite_t h hq
      · rw [if_neg h] at hq; exact ite_f h hq
    case of =>
      have e : nx .of t = if t = "of" then some .namedO else none := rfl
      rw [e] at hq
      by_cases h : t = "of"
      · rw [if_pos h] at hq; exact ite_t h hq
      · rw [if_neg h] at hq; exact ite_f h hq
    case verAt => exact num_go rfl hq (by decide +kernel)
    case verBy => exact num_go rfl hq (by decide +kernel)
    case write => exact num_go rfl hq (by decide +kernel)
    case numH => exact num_go rfl hq (by decide +kernel)
    case numM => exact num_go rfl hq (by decide +kernel)
    case numT => exact num_go rfl hq (by decide +kernel)
    case numO => exact num_go rfl hq (by decide +kernel)
    case keys => exact key_go rfl hq (by decide +kernel) (fun h => ite_f (by decide +kernel) h) (fun h => ite_f (by decide +kernel) h)
    case key => exact key_go rfl hq (by decide +kernel) (fun h => ite_f (by decide +kernel) h) (fun h => ite_f (by decide +kernel) h)
    case namedT => exact key_go rfl hq (by decide +kernel) (fun h => ite_f (by decide +kernel) h) (fun h => ite_f (by decide +kernel) h)
    case namedO => exact key_go rfl hq (by decide +kernel) (fun h => ite_f (by decide +kernel) h) (fun h => ite_f (by decide +kernel) h)
    case more =>
      have e : nx .more t = if wordK t = true then some .more else if t = ";" then some .start else none := rfl
      rw [e] at hq
      have h2 : wordK t = false → if True then (if t = Str.ofString ";" then Q (D.str (Str.ofString "start")) μ else Q D.non μ) else Q D.non μ := fun hw => by
        rw [hw] at hq
        refine ite_t trivial ?_
        by_cases h : t = ";"
        · rw [if_neg (by decide), if_pos h] at hq; rw [if_pos h]; exact hq
        · rw [if_neg (by decide), if_neg h] at hq; rw [if_neg h]; exact hq
      by_cases h1 : isL (c0 t) = true
      · refine ite_t h1 ?_
        by_cases h8 : t.length ≤ 8
        · refine ite_t (by omega) ?_
          rw [if_pos (by unfold wordK; rw [h1, decide_eq_true h8]; rfl)] at hq
          exact ⟨_, _, rfl, by decide +kernel, hq⟩
        · refine ite_f (by omega) ?_
          exact h2 (by unfold wordK; rw [decide_eq_false h8, Bool.and_false])
      · refine ite_f h1 ?_
        exact h2 (by unfold wordK; rw [Bool.not_eq_true] at h1; rw [h1]; rfl)
  · exact h.elim
)
end
end K42
end

-- part ED
section
local macro_rules | `(tactic| walk_at "dl") => `(tactic| simp only [DL.sRet, DL.dJoined, DL.dJs, DL.dFmt, DL.dFld, DL.dMeth, DL.dMake, DL.sFld, DL.sFldI, DL.sSeq, DL.sSet, DL.sIf, DL.sNext, DL.sNever, DL.sDrop, DL.sAsg, DL.sRetN, DL.dVar, DL.dC, DL.dOp, DL.dTest, DL.dAnd, DL.dOr, DL.dNot, DL.dTru, DL.dAndV, DL.dOrV, DL.dNotV, DL.dIf, DL.aNil, DL.aCons, DL.dTup, DL.dLst, DL.dLstM, DL.dCall, DL.dFrz, DL.dB, DL.dNeg, DL.dSl, DL.oNone, DL.oSome, DL.dChn, DL.gN, DL.gT, DL.setAll, DL.fOf, DL.aNilX, DL.aConsX, DL.dTupX, DL.dLstMX, DL.dCallX, DL.dCallN, DL.dMethX, DL.xOf, DL.xNext, DL.xSeq, DL.xDrop, DL.xRet, DL.xIf, DL.xSet, DL.xFrz, DL.xApp, DL.xRaise, DL.dWix, DL.dWget, DL.optS,
  DL.ix_l, DL.ix_t, DL.ix_s, DL.ix_p, DL.add_i, DL.add_s, DL.add_l, DL.add_t, DL.mul_i, DL.mul_b, DL.sub_i, DL.fdiv_i, DL.mod_i, DL.pow_i, DL.shl_i, DL.shr_i, DL.and_i, DL.lt_i, DL.le_i, DL.gt_i, DL.ge_i, DL.le_s, DL.in_t, DL.in_l, DL.in_s, DL.len_l, DL.len_t, DL.len_s, DL.len_p, DL.list_l, DL.list_t, DL.list_s, DL.list_p, DL.tuple_l, DL.tuple_t, DL.int_i, DL.int_b, DL.abs_i, DL.max_i, DL.min_i, DL.all_l, DL.any_l, DL.isi_1, DL.isi_n, DL.sl_l, DL.sl_t, DL.sl_s, DL.neg_i, DL.isN_i, DL.notN_i, DL.eq_x, DL.ne_x,
  DL.w_wrote_many, DL.w_wrote_many_b, DL.w_wrote_among, DL.w_wrote_among_b, DL.w_wrote_did, DL.w_wrote_did_b, DL.w_wrote_times, DL.w_wrote_times_b, DL.w_wrote_value, DL.w_wrote_value_b, DL.w_wrote_head, DL.w_wrote_head_b, DL.w_many_wrote, DL.w_many_wrote_b, DL.w_many_among, DL.w_many_among_b, DL.w_many_did, DL.w_many_did_b, DL.w_many_times, DL.w_many_times_b, DL.w_many_value, DL.w_many_value_b, DL.w_many_head, DL.w_many_head_b, DL.w_among_wrote, DL.w_among_wrote_b, DL.w_among_many, DL.w_among_many_b, DL.w_among_did, DL.w_among_did_b, DL.w_among_times, DL.w_among_times_b, DL.w_among_value, DL.w_among_value_b, DL.w_among_head, DL.w_among_head_b, DL.w_did_wrote, DL.w_did_wrote_b, DL.w_did_many, DL.w_did_many_b, DL.w_did_among, DL.w_did_among_b, DL.w_did_times, DL.w_did_times_b, DL.w_did_value, DL.w_did_value_b, DL.w_did_head, DL.w_did_head_b, DL.w_times_wrote, DL.w_times_wrote_b, DL.w_times_many, DL.w_times_many_b, DL.w_times_among, DL.w_times_among_b, DL.w_times_did, DL.w_times_did_b, DL.w_times_value, DL.w_times_value_b, DL.w_times_head, DL.w_times_head_b, DL.w_value_wrote, DL.w_value_wrote_b, DL.w_value_many, DL.w_value_many_b, DL.w_value_among, DL.w_value_among_b, DL.w_value_did, DL.w_value_did_b, DL.w_value_times, DL.w_value_times_b, DL.w_value_head, DL.w_value_head_b, DL.w_head_wrote, DL.w_head_wrote_b, DL.w_head_many, DL.w_head_many_b, DL.w_head_among, DL.w_head_among_b, DL.w_head_did, DL.w_head_did_b, DL.w_head_times, DL.w_head_times_b, DL.w_head_value, DL.w_head_value_b,
  DL.q_ss, DL.q_ii, DL.q_bb, DL.q_nn, DL.q_tt, DL.q_ll, DL.q_si, DL.q_sn, DL.q_st, DL.q_sl, DL.q_is, DL.q_in, DL.q_it, DL.q_il, DL.q_ns, DL.q_ni, DL.q_nt, DL.q_nl, DL.q_ts, DL.q_ti, DL.q_tn, DL.q_tl, DL.q_ls, DL.q_li, DL.q_ln, DL.q_lt, DL.qs_nil, DL.qs_cons, DL.qs_nc, DL.qs_cn, DL.p_t16, DL.p_l16, DL.p_t15, DL.p_l15, DL.p_t14, DL.p_l14, DL.p_t13, DL.p_l13, DL.p_t12, DL.p_l12, DL.p_s, DL.p_i, DL.p_b, DL.p_n, DL.ps_nil, DL.ps_cons, DL.t_b, DL.t_i, DL.t_l, DL.t_t, DL.t_n, DL.n_n, DL.n_i, DL.n_s, DL.n_t, DL.n_l, DL.n_b, DL.f_s, DL.f_i,
  Bool.false_and, Bool.and_false, DL.z0, DL.z1, DL.z2, DL.z3, DL.z4, DL.z5, DL.z6, DL.z12,
  DL.startD, DL.sFrz, DL.sApp, DL.yesD, DL.lcTurn, DL.wipeE, DL.at0, DL.at1, DL.at2, DL.at3, DL.at4, List.map_cons, List.map_nil, List.replicate_succ, List.replicate_zero, List.length_cons, List.length_nil, List.cons_append, List.nil_append, List.set_cons_zero, List.set_cons_succ, List.getElem?_cons_zero, List.getElem?_cons_succ, Option.some.injEq, exists_eq_left, exists_eq_left', exists_eq', exists_eq, true_and, and_true, decide_eq_true_eq, if_true, if_false, Bool.false_eq_true, reduceIte, Nat.reduceAdd, Nat.reduceSub, DL.D.bl.injEq, DL.D.int.injEq, DL.D.str.injEq, DL.D.tup.injEq, DL.D.lst.injEq, DL.D.ptr.injEq, Bool.not_true, Bool.not_false, beq_self_eq_true, List.all_cons, List.all_nil, List.any_cons, List.any_nil, Bool.and_true, Bool.true_and, Bool.or_false, Bool.false_or, Bool.or_true, Bool.true_or, Bool.false_xor, Bool.true_xor, beq_iff_eq, Bool.not_eq_true, Int.reduceEq, Int.reduceBEq, and_self])

namespace K42
open PySem L2 DL
def tk (ts : List Str) (k : Nat) : Str := ts.getD k ";"
def beh (ts : List Str) (k : Nat) : Str := ts.getD (k + 1) ";"
def apart (t b : Str) : Bool := isL (c0 t) && isL (c0 b) || !isL (c0 t) && isD (c0 b)
def okC (ts : List Str) (k : Nat) (c : List Nat) : Prop := (c = [] ∧ apart (tk ts k) (beh ts k) = false ∧ tk ts k ≠ "-") ∨ c = [32] ∨ c = [10]
def tgt (ts : List Str) (k : Nat) (c : List Nat) : Bool := decide (c = []) && (decide (tk ts k ≠ ";") && (decide (beh ts k ≠ ";") && (decide (beh ts k ≠ "-") && decide (beh ts k ≠ "="))))
/-- the tokens joined, up to the k-th -/
inductive Jn (pre : List Nat) (ts : List Str) : Nat → List Nat → List Nat → List Nat → List (List Nat) → Prop
  | nil : Jn pre ts 0 pre [] [] []
  | snoc {k text pl tg cs c} (h : Jn pre ts k text pl tg cs) (hk : k < ts.length) (hc : okC ts k c) : Jn pre ts (k + 1) (text ++ (tk ts k).cps.toList ++ c) (pl ++ [text.length]) (tg ++ if tgt ts k c = true then [k + 1] else []) (cs ++ [c])
abbrev eInts (l : List Nat) : List D := l.map fun n => D.int (n : Nat)
def C__law_joined : CT := fun ds μ Q => match ds with
  | [.ptr dr, t] => μ dr = some .draw ∧ ∃ ts : List Str, t = eToks ts ∧ ts.length ≤ 600 ∧ (∀ t ∈ ts, okTok t) ∧ ∀ pre text pl tg cs, (pre = [] ∨ pre = [32]) → Jn pre ts ts.length text pl tg cs → Q (.tup [.str ⟨text.toArray⟩, .lst (eInts pl), .lst (eInts tg)]) μ
  | _ => False
theorem jn_len {pre : List Nat} {ts : List Str} {k : Nat} {text pl tg : List Nat} {cs : List (List Nat)} (ho : ∀ t ∈ ts, okTok t) (h : Jn pre ts k text pl tg cs) : text.length ≤ pre.length + 11 * k ∧ pl.length = k ∧ tg.length ≤ k := by
  induction h with
  | nil => simp
  | @snoc k text pl tg cs c h hk hc ih =>
    have hm : tk ts k ∈ ts := by unfold tk; rw [List.getD_eq_getElem?_getD, List.getElem?_eq_getElem hk]; exact List.getElem_mem _
    have h1 := (ho _ hm).1
    have h2 : (tk ts k).cps.toList.length = (tk ts k).length := Array.length_toList
    have h3 : c.length ≤ 1 := by rcases hc with ⟨rfl, _⟩ | rfl | rfl <;> simp
    simp only [List.length_append, List.length_singleton]
    refine ⟨by omega, by omega, ?_⟩
    split <;> simp <;> omega
theorem okTok_sep : okTok ";" := ⟨by decide, .inl rfl⟩
theorem tk_ok {ts : List Str} (ho : ∀ t ∈ ts, okTok t) (k : Nat) : okTok (tk ts k) := by
  unfold tk
  rw [List.getD_eq_getElem?_getD]
  by_cases h : k < ts.length
  · rw [List.getElem?_eq_getElem h]; exact ho _ (List.getElem_mem _)
  · rw [List.getElem?_eq_none (by omega)]; exact okTok_sep
theorem tok_sok {t : Str} (h : okTok t) : ∀ c ∈ t.cps.toList, c < 128 := by
  intro c hc
  rcases h.2 with rfl | rfl | rfl | h | h
  · rw [show (";" : Str).cps.toList = [59] by decide +kernel] at hc; simp at hc; omega
  · rw [show ("-" : Str).cps.toList = [45] by decide +kernel] at hc; simp at hc; omega
  · rw [show ("=" : Str).cps.toList = [61] by decide +kernel] at hc; simp at hc; omega
  · have := h.2 c hc
    simp [isL] at this
    omega
  · have := h.sig c hc; omega
theorem toks_at (ts : List Str) {k : Nat} (h : k < ts.length) : atI (ts.map D.str) (k : Int) = some (.str (tk ts k)) := by
  rw [atI_map, atG (";" : Str) (by omega) (by omega), Int.toNat_natCast]; rfl
theorem isl_go {c : Nat} {A : D → Prop} (h : A (.bl (isL c))) : if decide (97 ≤ c) = true then A (.bl (decide (c ≤ 122))) else A (.bl false) := by
  unfold isL at h
  split
  · rename_i hc; rw [hc] at h; exact h
  · rename_i hc; rw [Bool.not_eq_true] at hc; rw [hc] at h; exact h
section
variable {P : Program} {w : World} {K : PySem.W.Frag} {mg : Str → Option Value} {base : Heap}
theorem ok__law_joined (T : Tx K mg) : FnOk P w K mg base CX0 2 T.a__law_joined T.d__law_joined ["draw", "tokens"] (spD K C__law_joined) :=
  DL.Fun.okDf (N := ["draw", "tokens", "text", "places", "tight", "k", "word", "behind", "apart", "close"]) T.F__law_joined sc__law_joined (fun cdv A outer s H E hr => 
      (dss_cons (ds_set 2 sc__law_joined.nd (de_ix ix_seq od_ix (de_lst (da_cons (de_str) (da_cons (de_str) da_nil))) (de_call (ok__law_next T) (hr.mono (by decide)) (by rfl) T.m__law_next T.k__law_next T.v__law_next pass0 (da_cons (dv 0) (da_cons de_int da_nil))) (fun _ _ => rfl))) 
      (dss_cons (ds_set 3 sc__law_joined.nd (de_lstM da_nil)) 
      (dss_cons (ds_set 4 sc__law_joined.nd (de_lstM da_nil)) 
      (dss_cons (ds_for PassesOwn.never rfl (di_rg1 (by rfl) T.b_range (da_cons (de_B L2.call_len cd_len (by rfl) T.b_len (by decide +kernel) (da_cons (dv 1) da_nil)) da_nil)) (dg_name 5 sc__law_joined.nd) 
      (dss_cons (ds_app (dv 3) (de_B L2.call_len cd_len (by rfl) T.b_len (by decide +kernel) (da_cons (dv 2) da_nil))) 
      (dss_cons (ds_set 2 sc__law_joined.nd (de_op op_addD od_add (dv 2) (de_ix ix_seq od_ix (dv 1) (dv 5) (fun _ _ => rfl)))) 
      (dss_cons (ds_set 6 sc__law_joined.nd (de_chain op_leD op_leD od_le od_le (de_str) (de_ix ix_seq od_ix (de_ix ix_seq od_ix (dv 1) (dv 5) (fun _ _ => rfl)) de_int (fun _ _ => rfl)) (de_str))) 
      (dss_cons (ds_set 7 sc__law_joined.nd (de_if (dt_cmp op_ltD od_lt (de_op op_addD od_add (dv 5) de_int) (de_B L2.call_len cd_len (by rfl) T.b_len (by decide +kernel) (da_cons (dv 1) da_nil)) (nomark _)) (de_ix ix_seq od_ix (dv 1) (de_op op_addD od_add (dv 5) de_int) (fun _ _ => rfl)) (de_str))) 
      (dss_cons (ds_set 8 sc__law_joined.nd (de_or (de_and (dv 6) (de_one (de_chain op_leD op_leD od_le od_le (de_str) (de_ix ix_seq od_ix (dv 7) de_int (fun _ _ => rfl)) (de_str)))) (de_one (de_and (de_not (dv 6)) (de_one (de_cmp op_inD2 od_in (de_ix ix_seq od_ix (dv 7) de_int (fun _ _ => rfl)) (de_str) (by rfl))))))) 
      (dss_cons (ds_set 9 sc__law_joined.nd (de_and (de_not (dv 8)) (de_and (de_cmp (op_eqD hr.units) od_eq (de_call (ok__law_next T) (hr.mono (by decide)) (by rfl) T.m__law_next T.k__law_next T.v__law_next pass0 (da_cons (dv 0) (da_cons de_int da_nil))) de_int (nomark _)) (de_one (de_cmp (op_neD hr.units) od_ne (de_ix ix_seq od_ix (dv 1) (dv 5) (fun _ _ => rfl)) (de_str) (nomark _)))))) 
      (dss_cons (ds_if (dw_pt (dw_and (dt_tru (dv 9)) (dw_and (dt_cmp (op_neD hr.units) od_ne (de_ix ix_seq od_ix (dv 1) (dv 5) (fun _ _ => rfl)) (de_str) (nomark _)) (dw_and (dt_cmp (op_neD hr.units) od_ne (dv 7) (de_str) (nomark _)) (dw_and1 (dt_cmp op_notInD2 od_notIn (dv 7) (de_tup (da_cons (de_str) (da_cons (de_str) da_nil))) (by rfl))))))) 
      (dss_one (ds_app (dv 4) (de_op op_addD od_add (dv 5) de_int))) dss_nil) 
      (dss_one (ds_set 2 sc__law_joined.nd (de_op op_addD od_add (dv 2) (de_if (dt_tru (dv 9)) (de_str) (de_ix ix_seq od_ix (de_lst (da_cons (de_str) (da_cons (de_str) da_nil))) (de_call (ok__law_next T) (hr.mono (by decide)) (by rfl) T.m__law_next T.k__law_next T.v__law_next pass0 (da_cons (dv 0) (da_cons de_int da_nil))) (fun _ _ => rfl)))))))))))))) 
      (dss_frz 4 (dss_frz 3 (dss_one (ds_ret (de_tup (da_cons (dv 2) (da_cons (dv 3) (da_cons (dv 4) da_nil)))))))))))))
    (by intro ds μ Q h; unfold C__law_joined at h; split at h <;> first | rfl | exact h.elim) (by
  intro ds μ Q h
  unfold C__law_joined at h
  split at h
  · rename_i ds' dr t
    obtain ⟨hd, ts, rfl, hl, ho, hq⟩ := h
    refine step_set (fun d μ' => ∃ pre : List Nat, (pre = [] ∨ pre = [32]) ∧ d = .str ⟨pre.toArray⟩ ∧ μ = μ') (fun R hR => ?_) fun d μ' hS => ?_
    · (walk_at "dl")
      refine ⟨hd, by decide, by decide, fun x x0 x1 => ?_⟩
      have hx : x = 0 ∨ x = 1 := by omega
      rcases hx with rfl | rfl
      · exact ⟨_, at0, hR _ _ ⟨[], .inl rfl, rfl, rfl⟩⟩
      · exact ⟨_, at1, hR _ _ ⟨[32], .inr rfl, rfl, rfl⟩⟩
    obtain ⟨pre, hpre, rfl, rfl⟩ := hS
    refine step_set (fun d μ' => ∃ p, d = .ptr p ∧ μ p = none ∧ μ' = μ.put p (.lst [])) (fun R hR => ?_) fun d μ' hS => ?_
    · (walk_at "dl")
      exact fun p hp => hR _ _ ⟨p, rfl, hp, rfl⟩
    obtain ⟨p, rfl, hp, rfl⟩ := hS
    refine step_set (fun d μ' => ∃ q, d = .ptr q ∧ q ≠ p ∧ μ q = none ∧ μ' = (μ.put p (.lst [])).put q (.lst [])) (fun R hR => ?_) fun d μ' hS => ?_
    · (walk_at "dl")
      intro q hq'
      have hqp : q ≠ p := fun e => by subst e; rw [Mu.put_same] at hq'; cases hq'
      exact hR _ _ ⟨q, rfl, hqp, by rw [Mu.put_ne hqp] at hq'; exact hq', rfl⟩
    obtain ⟨q, rfl, hqp, hqn, rfl⟩ := hS
    have hdr : ∀ a b : MO, ((μ.put p a).put q b) dr = some .draw := fun a b => by rw [Mu.put_ne (Mu.ne_of hd hqn), Mu.put_ne (Mu.ne_of hd hp)]; exact hd
    show sSeq _ _ _ [some (.ptr dr), some (eToks ts), some (.str ⟨pre.toArray⟩), some (.ptr p), some (.ptr q), none, none, none, none, none] _
    refine step_for (fun k : Nat => D.int (0 + (k : Nat))) (List.range ts.length) (fun ks ρ' μ' => ∃ text pl tg cs, Jn pre ts ks.length text pl tg cs ∧ (∃ a b c d e, ρ' = [some (.ptr dr), some (eToks ts), some (.str ⟨text.toArray⟩), some (.ptr p), some (.ptr q), a, b, c, d, e]) ∧ μ' = (μ.put p (.lst (eInts pl))).put q (.lst (eInts tg))) (rg1 (i := ts.length) ⟨by omega, by omega⟩ fun R h => ?_) ⟨pre, [], [], [], .nil, ⟨_, _, _, _, _, rfl⟩, rfl⟩ (fun ks k post ρ' μ' e hI E1 hrt hE1 => ?_) fun ρ' μ' hI => ?_
    · (walk_at "dl")
      rw [List.length_map]
      exact h
    · obtain ⟨text, pl, tg, cs, hJ, ⟨a, b, c, d, e1, rfl⟩, rfl⟩ := hI
      have hk : k = ks.length ∧ k < ts.length := by
        have h1 : (List.range ts.length)[ks.length]? = (ks ++ k :: post)[ks.length]? := by rw [e]
        rw [List.getElem?_append_right (Nat.le_refl _), Nat.sub_self, List.getElem?_cons_zero] at h1
        obtain ⟨h2, h3⟩ := List.getElem?_eq_some_iff.mp h1
        rw [List.length_range] at h2
        rw [List.getElem_range] at h3
        omega
      obtain ⟨hk1, hk2⟩ := hk
      rw [← hk1] at hJ
      obtain ⟨j1, j2, j3⟩ := jn_len ho hJ
      have hpl : pre.length ≤ 1 := by rcases hpre with rfl | rfl <;> simp
      have ht := tk_ok ho k
      have hb := tk_ok ho (k + 1)
      have e0 : (0 : Int) + (k : Int) = (k : Nat) := by omega
      have hat := toks_at ts hk2
      have htl : (tk ts k).cps.toList.length = (tk ts k).length := Array.length_toList
      have h1 := ht.1
      rw [e0]
      unfold gN
      simp only [List.set_cons_zero, List.set_cons_succ]
      refine step (fun ρ' μ' => ρ' = [some (.ptr dr), some (eToks ts), some (.str ⟨text.toArray⟩), some (.ptr p), some (.ptr q), some (.int (k : Nat)), b, c, d, e1] ∧ μ' = (μ.put p (.lst (eInts (pl ++ [text.length])))).put q (.lst (eInts tg))) (fun E' hE' => ?_) fun ρ' μ' hS => ?_
      · (walk_at "dl")
        refine ⟨p, _, rfl, by rw [Mu.put_ne (Ne.symm hqp)]; exact Mu.put_same, _, by rw [Mu.put_ne (Ne.symm hqp)]; exact Mu.put_same, sz_small' (by rw [List.length_map]; omega), hE' _ _ ⟨rfl, ?_⟩⟩
        rw [put_comm (Ne.symm hqp), Mu.put_put, put_comm hqp]
        have el : (⟨text.toArray⟩ : Str).length = text.length := by show text.toArray.size = _; rw [List.size_toArray]
        rw [el]
        unfold eInts
        rw [List.map_append]
        rfl
      obtain ⟨rfl, rfl⟩ := hS
      generalize hM : (μ.put p (.lst (eInts (pl ++ [text.length])))).put q (.lst (eInts tg)) = M
      have hdm : M dr = some .draw := by rw [← hM]; exact hdr _ _
      refine step_set (fun d μ' => d = .str ⟨(text ++ (tk ts k).cps.toList).toArray⟩ ∧ M = μ') (fun R hR => ?_) fun d μ' hS => ?_
      · (walk_at "dl")
        refine ⟨_, hat, ?_⟩
        have ec : (⟨text.toArray⟩ : Str) ++ tk ts k = ⟨(text ++ (tk ts k).cps.toList).toArray⟩ := by
          show (⟨text.toArray ++ (tk ts k).cps⟩ : Str) = _
          congr 1
          apply Array.toList_inj.mp
          simp
        have el : (⟨text.toArray⟩ : Str).length = text.length := by show text.toArray.size = _; rw [List.size_toArray]
        (walk_at "dl")
        rw [ec, el]
        exact ⟨sz_small (by omega), hR _ _ ⟨rfl, rfl⟩⟩
      obtain ⟨rfl, rfl⟩ := hS
      simp only [List.set_cons_zero, List.set_cons_succ]
      refine step_set (fun d μ' => d = .bl (isL (c0 (tk ts k))) ∧ M = μ') (fun R hR => ?_) fun d μ' hS => ?_
      · (walk_at "dl")
        refine ⟨_, hat, ?_⟩
        (walk_at "dl")
        simp only [tok_at ht, Option.some.injEq, exists_eq_left', le_a, le_z]
        exact isl_go (A := fun d => R d M) (hR _ _ ⟨rfl, rfl⟩)
      obtain ⟨rfl, rfl⟩ := hS
      simp only [List.set_cons_zero, List.set_cons_succ]
      refine step_set (fun d μ' => d = .str (beh ts k) ∧ M = μ') (fun R hR => ?_) fun d μ' hS => ?_
      · (walk_at "dl")
        rw [List.length_map]
        by_cases hk3 : k + 1 < ts.length
        · rw [if_pos (by omega)]
          have := toks_at ts hk3
          rw [show ((k + 1 : Nat) : Int) = (k : Int) + 1 by omega] at this
          exact ⟨_, this, hR _ _ ⟨rfl, rfl⟩⟩
        · rw [if_neg (by omega)]
          refine hR _ _ ⟨?_, rfl⟩
          unfold beh
          rw [List.getD_eq_getElem?_getD, List.getElem?_eq_none (by omega)]
          rfl
      obtain ⟨rfl, rfl⟩ := hS
      simp only [List.set_cons_zero, List.set_cons_succ]
      refine step_set (fun d μ' => d = .bl (apart (tk ts k) (beh ts k)) ∧ M = μ') (fun R hR => ?_) fun d μ' hS => ?_
      · (walk_at "dl")
        have hb2 : atI (beh ts k).cps.toList 0 = some (c0 (beh ts k)) := tok_at hb
        simp only [hb2, Option.some.injEq, exists_eq_left', le_a, le_z, in_digits, in_sign]
        unfold apart at hR
        have hR := hR _ _ ⟨rfl, rfl⟩
        revert hR
        cases isL (c0 (tk ts k)) with
        | true =>
          intro hR
          have hR : R (.bl (isL (c0 (beh ts k)) || false)) M := hR
          rw [Bool.or_false] at hR
          refine ite_t rfl ?_
          unfold isL at hR
          by_cases h1 : 97 ≤ c0 (beh ts k)
          · refine ite_t (decide_eq_true h1) ?_
            by_cases h2 : c0 (beh ts k) ≤ 122
            · refine ite_t (decide_eq_true h2) ?_
              rw [decide_eq_true h1, decide_eq_true h2] at hR
              exact hR
            · refine ite_f (by simp [h2]) (ite_f (by decide) ?_)
              rw [decide_eq_true h1, decide_eq_false h2] at hR
              exact hR
          · refine ite_f (by simp [h1]) (ite_f (by decide) ?_)
            rw [decide_eq_false h1] at hR
            exact hR
        | false =>
          intro hR
          have hR : R (.bl (isD (c0 (beh ts k)))) M := hR
          exact ite_f (by decide) (ite_t (by decide) hR)
      obtain ⟨rfl, rfl⟩ := hS
      simp only [List.set_cons_zero, List.set_cons_succ]
      refine step_set (fun d μ' => ∃ cl : Bool, d = .bl cl ∧ (cl = true → apart (tk ts k) (beh ts k) = false ∧ tk ts k ≠ "-") ∧ M = μ') (fun R hR => ?_) fun d μ' hS => ?_
      · (walk_at "dl")
        cases ha : apart (tk ts k) (beh ts k) with
        | true => exact ite_f (by decide) (hR _ _ ⟨false, rfl, (fun h => nomatch h), rfl⟩)
        | false =>
          refine ite_t (by decide) ⟨hdm, by decide, by decide, fun x x0 x1 => ⟨p_i, ?_⟩⟩
          rw [q_ii]
          by_cases hx : x = 0
          · refine ite_t (by simp [hx]) ⟨_, hat, p_s, hR _ _ ⟨_, rfl, fun h => ⟨ha, ?_⟩, rfl⟩⟩
            rw [q_ss] at h
            simpa using h
          · exact ite_f (by simp [hx]) (hR _ _ ⟨false, rfl, (fun h => nomatch h), rfl⟩)
      obtain ⟨cl, rfl, hcl, rfl⟩ := hS
      simp only [List.set_cons_zero, List.set_cons_succ]
      subst hM
      refine step (fun ρ' μ' => ρ' = [some (.ptr dr), some (eToks ts), some (.str ⟨(text ++ (tk ts k).cps.toList).toArray⟩), some (.ptr p), some (.ptr q), some (.int (k : Nat)), some (.bl (isL (c0 (tk ts k)))), some (.str (beh ts k)), some (.bl (apart (tk ts k) (beh ts k))), some (.bl cl)] ∧
        μ' = (μ.put p (.lst (eInts (pl ++ [text.length])))).put q (.lst (eInts (tg ++ if cl = true ∧ tgt ts k [] = true then [k + 1] else [])))) (fun E' hE' => ?_) fun ρ' μ' hS => ?_
      · (walk_at "dl")
        have no : ¬ (cl = true ∧ tgt ts k [] = true) → E'.nx [some (.ptr dr), some (eToks ts), some (.str ⟨(text ++ (tk ts k).cps.toList).toArray⟩), some (.ptr p), some (.ptr q), some (.int (k : Nat)), some (.bl (isL (c0 (tk ts k)))), some (.str (beh ts k)), some (.bl (apart (tk ts k) (beh ts k))), some (.bl cl)] ((μ.put p (.lst (eInts (pl ++ [text.length])))).put q (.lst (eInts tg))) := fun h => hE' _ _ ⟨rfl, by rw [if_neg h, List.append_nil]⟩
        cases cl with
        | false => exact ite_f (by decide) (no fun h => nomatch h.1)
        | true =>
          refine ite_t rfl ⟨_, hat, p_s, ?_⟩
          rw [q_ss]
          by_cases h1 : tk ts k = ";"
          · exact ite_f (by simp [h1]) (no fun h => by have := h.2; unfold tgt at this; simp [h1] at this)
          · refine ite_t (by simpa using h1) ?_
            by_cases h2 : beh ts k = ";"
            · exact ite_f (by simp [h2]) (no fun h => by have := h.2; unfold tgt at this; simp [h2] at this)
            · refine ite_t (by simpa using h2) ?_
              by_cases h3 : beh ts k = "-"
              · exact ite_f (by simp [h3]) (no fun h => by have := h.2; unfold tgt at this; simp [h3] at this)
              · by_cases h4 : beh ts k = "="
                · exact ite_f (by simp [h4]) (no fun h => by have := h.2; unfold tgt at this; simp [h4] at this)
                · refine ite_t ?_ ⟨q, _, rfl, Mu.put_same, _, Mu.put_same, sz_small' (by rw [List.length_map]; omega), hE' _ _ ⟨rfl, ?_⟩⟩
                  · have e1 : (Str.ofString "-" == beh ts k) = false := by simpa using fun e : Str.ofString "-" = beh ts k => h3 e.symm
                    have e2 : (Str.ofString "=" == beh ts k) = false := by simpa using fun e : Str.ofString "=" = beh ts k => h4 e.symm
                    rw [e1, e2]; rfl
                  · have e9 : eInts (tg ++ [k + 1]) = eInts tg ++ [D.int ((k : Int) + 1)] := by unfold eInts; rw [List.map_append]; rfl
                    rw [Mu.put_put, if_pos ⟨rfl, by unfold tgt; simp [h1, h2, h3, h4]⟩, e9]
      obtain ⟨rfl, rfl⟩ := hS
      (walk_at "dl")
      have elt : (⟨(text ++ (tk ts k).cps.toList).toArray⟩ : Str).length = text.length + (tk ts k).cps.toList.length := by show (text ++ (tk ts k).cps.toList).toArray.size = _; rw [List.size_toArray, List.length_append]
      have fin : ∀ (c : List Nat) (s : Str) (w1 w2 w3 w4 : Option D), s.cps.toList = c → okC ts k c → (if cl = true ∧ tgt ts k [] = true then [k + 1] else []) = (if tgt ts k c = true then [k + 1] else []) → E1.nx [some (.ptr dr), some (eToks ts), some (.str (⟨(text ++ (tk ts k).cps.toList).toArray⟩ ++ s)), some (.ptr p), some (.ptr q), some (.int (k : Nat)), w1, w2, w3, w4] ((μ.put p (.lst (eInts (pl ++ [text.length])))).put q (.lst (eInts (tg ++ if cl = true ∧ tgt ts k [] = true then [k + 1] else [])))) := fun c s w1 w2 w3 w4 hs hc he => by
        refine hE1 _ _ ⟨_, _, _, _, by rw [List.length_append, List.length_singleton, ← hk1]; exact .snoc hJ hk2 hc, ⟨some (.int (k : Nat)), w1, w2, w3, w4, ?_⟩, by rw [he]⟩
        have ec : (⟨(text ++ (tk ts k).cps.toList).toArray⟩ : Str) ++ s = ⟨(text ++ (tk ts k).cps.toList ++ c).toArray⟩ := by
          rw [← hs]
          show (⟨(text ++ (tk ts k).cps.toList).toArray ++ s.cps⟩ : Str) = _
          congr 1
          apply Array.toList_inj.mp
          simp
        rw [ec]
      cases cl with
      | true =>
        refine ite_t rfl ⟨by rw [elt]; exact sz_small (by have : (Str.ofString "").length = 0 := rfl; omega), fin [] "" _ _ _ _ (by decide +kernel) (.inl ⟨rfl, (hcl rfl).1, (hcl rfl).2⟩) (by simp)⟩
      | false =>
        have hdm2 : ((μ.put p (.lst (eInts (pl ++ [text.length])))).put q (.lst (eInts (tg ++ if false = true ∧ tgt ts k [] = true then [k + 1] else [])))) dr = some .draw := hdr _ _
        refine ite_f (by decide) ⟨hdm2, by decide, by decide, fun x x0 x1 => ?_⟩
        have hx : x = 0 ∨ x = 1 := by omega
        rcases hx with rfl | rfl
        · refine ⟨_, at0, ?_⟩
          (walk_at "dl")
          exact ⟨by rw [elt]; exact sz_small (by have : (Str.ofString " ").length = 1 := rfl; omega), fin [32] " " _ _ _ _ (by decide +kernel) (.inr (.inl rfl)) (by simp [tgt])⟩
        · refine ⟨_, at1, ?_⟩
          (walk_at "dl")
          exact ⟨by rw [elt]; exact sz_small (by have : (Str.ofString "\n").length = 1 := rfl; omega), fin [10] "\n" _ _ _ _ (by decide +kernel) (.inr (.inr rfl)) (by simp [tgt])⟩
    · obtain ⟨text, pl, tg, cs, hJ, ⟨a, b, c, d, e1, rfl⟩, rfl⟩ := hI
      (walk_at "dl")
      have hpq : p ≠ q := Ne.symm hqp
      have hd1 : ((μ.put p (.lst (eInts pl))).put q (.lst (eInts tg))).del q = μ.put p (.lst (eInts pl)) := Mu.put_del (by rw [Mu.put_ne hqp]; exact hqn)
      refine ⟨q, _, rfl, Mu.put_same, p, eInts pl, rfl, ?_, μ, ?_, ?_⟩
      · rw [hd1]; exact Mu.put_same
      · rw [hd1, Mu.put_del hp]; exact sub_refl
      · rw [List.length_range] at hJ
        exact hq pre text pl tg cs hpre hJ
  · exact h.elim
)
end
end K42
end

-- part EE
section
local macro_rules | `(tactic| walk_at "dl") => `(tactic| simp only [DL.sRet, DL.dJoined, DL.dJs, DL.dFmt, DL.dFld, DL.dMeth, DL.dMake, DL.sFld, DL.sFldI, DL.sSeq, DL.sSet, DL.sIf, DL.sNext, DL.sNever, DL.sDrop, DL.sAsg, DL.sRetN, DL.dVar, DL.dC, DL.dOp, DL.dTest, DL.dAnd, DL.dOr, DL.dNot, DL.dTru, DL.dAndV, DL.dOrV, DL.dNotV, DL.dIf, DL.aNil, DL.aCons, DL.dTup, DL.dLst, DL.dLstM, DL.dCall, DL.dFrz, DL.dB, DL.dNeg, DL.dSl, DL.oNone, DL.oSome, DL.dChn, DL.gN, DL.gT, DL.setAll, DL.fOf, DL.aNilX, DL.aConsX, DL.dTupX, DL.dLstMX, DL.dCallX, DL.dCallN, DL.dMethX, DL.xOf, DL.xNext, DL.xSeq, DL.xDrop, DL.xRet, DL.xIf, DL.xSet, DL.xFrz, DL.xApp, DL.xRaise, DL.dWix, DL.dWget, DL.optS,
  DL.ix_l, DL.ix_t, DL.ix_s, DL.ix_p, DL.add_i, DL.add_s, DL.add_l, DL.add_t, DL.mul_i, DL.mul_b, DL.sub_i, DL.fdiv_i, DL.mod_i, DL.pow_i, DL.shl_i, DL.shr_i, DL.and_i, DL.lt_i, DL.le_i, DL.gt_i, DL.ge_i, DL.le_s, DL.in_t, DL.in_l, DL.in_s, DL.len_l, DL.len_t, DL.len_s, DL.len_p, DL.list_l, DL.list_t, DL.list_s, DL.list_p, DL.tuple_l, DL.tuple_t, DL.int_i, DL.int_b, DL.abs_i, DL.max_i, DL.min_i, DL.all_l, DL.any_l, DL.isi_1, DL.isi_n, DL.sl_l, DL.sl_t, DL.sl_s, DL.neg_i, DL.isN_i, DL.notN_i, DL.eq_x, DL.ne_x,
  DL.w_wrote_many, DL.w_wrote_many_b, DL.w_wrote_among, DL.w_wrote_among_b, DL.w_wrote_did, DL.w_wrote_did_b, DL.w_wrote_times, DL.w_wrote_times_b, DL.w_wrote_value, DL.w_wrote_value_b, DL.w_wrote_head, DL.w_wrote_head_b, DL.w_many_wrote, DL.w_many_wrote_b, DL.w_many_among, DL.w_many_among_b, DL.w_many_did, DL.w_many_did_b, DL.w_many_times, DL.w_many_times_b, DL.w_many_value, DL.w_many_value_b, DL.w_many_head, DL.w_many_head_b, DL.w_among_wrote, DL.w_among_wrote_b, DL.w_among_many, DL.w_among_many_b, DL.w_among_did, DL.w_among_did_b, DL.w_among_times, DL.w_among_times_b, DL.w_among_value, DL.w_among_value_b, DL.w_among_head, DL.w_among_head_b, DL.w_did_wrote, DL.w_did_wrote_b, DL.w_did_many, DL.w_did_many_b, DL.w_did_among, DL.w_did_among_b, DL.w_did_times, DL.w_did_times_b, DL.w_did_value, DL.w_did_value_b, DL.w_did_head, DL.w_did_head_b, DL.w_times_wrote, DL.w_times_wrote_b, DL.w_times_many, DL.w_times_many_b, DL.w_times_among, DL.w_times_among_b, DL.w_times_did, DL.w_times_did_b, DL.w_times_value, DL.w_times_value_b, DL.w_times_head, DL.w_times_head_b, DL.w_value_wrote, DL.w_value_wrote_b, DL.w_value_many, DL.w_value_many_b, DL.w_value_among, DL.w_value_among_b, DL.w_value_did, DL.w_value_did_b, DL.w_value_times, DL.w_value_times_b, DL.w_value_head, DL.w_value_head_b, DL.w_head_wrote, DL.w_head_wrote_b, DL.w_head_many, DL.w_head_many_b, DL.w_head_among, DL.w_head_among_b, DL.w_head_did, DL.w_head_did_b, DL.w_head_times, DL.w_head_times_b, DL.w_head_value, DL.w_head_value_b,
  DL.q_ss, DL.q_ii, DL.q_bb, DL.q_nn, DL.q_tt, DL.q_ll, DL.q_si, DL.q_sn, DL.q_st, DL.q_sl, DL.q_is, DL.q_in, DL.q_it, DL.q_il, DL.q_ns, DL.q_ni, DL.q_nt, DL.q_nl, DL.q_ts, DL.q_ti, DL.q_tn, DL.q_tl, DL.q_ls, DL.q_li, DL.q_ln, DL.q_lt, DL.qs_nil, DL.qs_cons, DL.qs_nc, DL.qs_cn, DL.p_t16, DL.p_l16, DL.p_t15, DL.p_l15, DL.p_t14, DL.p_l14, DL.p_t13, DL.p_l13, DL.p_t12, DL.p_l12, DL.p_s, DL.p_i, DL.p_b, DL.p_n, DL.ps_nil, DL.ps_cons, DL.t_b, DL.t_i, DL.t_l, DL.t_t, DL.t_n, DL.n_n, DL.n_i, DL.n_s, DL.n_t, DL.n_l, DL.n_b, DL.f_s, DL.f_i,
  Bool.false_and, Bool.and_false, DL.z0, DL.z1, DL.z2, DL.z3, DL.z4, DL.z5, DL.z6, DL.z12,
  DL.startD, DL.sFrz, DL.sApp, DL.yesD, DL.lcTurn, DL.wipeE, DL.at0, DL.at1, DL.at2, DL.at3, DL.at4, List.map_cons, List.map_nil, List.replicate_succ, List.replicate_zero, List.length_cons, List.length_nil, List.cons_append, List.nil_append, List.set_cons_zero, List.set_cons_succ, List.getElem?_cons_zero, List.getElem?_cons_succ, Option.some.injEq, exists_eq_left, exists_eq_left', exists_eq', exists_eq, true_and, and_true, decide_eq_true_eq, if_true, if_false, Bool.false_eq_true, reduceIte, Nat.reduceAdd, Nat.reduceSub, DL.D.bl.injEq, DL.D.int.injEq, DL.D.str.injEq, DL.D.tup.injEq, DL.D.lst.injEq, DL.D.ptr.injEq, Bool.not_true, Bool.not_false, beq_self_eq_true, List.all_cons, List.all_nil, List.any_cons, List.any_nil, Bool.and_true, Bool.true_and, Bool.or_false, Bool.false_or, Bool.or_true, Bool.true_or, Bool.false_xor, Bool.true_xor, beq_iff_eq, Bool.not_eq_true, Int.reduceEq, Int.reduceBEq, and_self])

namespace K42
open PySem L2 DL PySem.NumText
theorem start_le (ts : List Str) : ∀ k, startOf ts k ≤ k
  | 0 => Nat.le_refl _
  | k + 1 => by
    have e : startOf ts (k + 1) = if ts.getD k ⟨#[]⟩ ≠ ";" then startOf ts k else k + 1 := rfl
    rw [e]
    split
    · have := start_le ts k; omega
    · exact Nat.le_refl _
def sgnd (t : Str) : Bool := decide (c0 t = 45) || isD (c0 t)
def rngOf (form : Str) (place : Nat) : Int × Int := if form = "write" ∧ place = 4 then (-1000000, 1000000) else if form = "at" ∨ form = "write" ∧ place = 1 then (1, 20) else (0, 20)
def outR (ts : List Str) (k : Nat) : Bool := sgnd (tk ts k) && !(decide ((rngOf (tk ts (startOf ts k)) (k - startOf ts k)).1 ≤ numV (tk ts k).cps.toList) && decide (numV (tk ts k).cps.toList ≤ (rngOf (tk ts (startOf ts k)) (k - startOf ts k)).2))
def rwF (ts : List Str) : Int := match (List.range ts.length).find? (outR ts) with
  | some k => k
  | none => -1
def plainTok (t : Str) : Prop := t.length ≤ 10 ∧ (t = ";" ∨ isWd t ∨ NumT t.cps.toList)
theorem plain_ok {t : Str} (h : plainTok t) : okTok t := ⟨h.1, by rcases h.2 with h | h | h <;> simp [h]⟩
theorem sg_num {t : Str} (h : plainTok t) (hs : sgnd t = true) : NumT t.cps.toList := by
  rcases h.2 with rfl | h | h
  · exact absurd hs (by decide +kernel)
  · obtain ⟨l, e⟩ := tok_ne (plain_ok ‹_›)
    have h1 := h.2 (c0 t) (by rw [e]; simp)
    exfalso
    unfold sgnd isD at hs
    simp [isL] at h1 hs
    omega
  · exact h
theorem int_num {t : Str} (h : NumT t.cps.toList) (hl : t.length ≤ 10) : PySem.intText? t = some (numV t.cps.toList) := by
  obtain ⟨neg, ds, e, h1, h2, h3, h4⟩ := h
  rw [numV_of e h1 h2]
  cases neg with
  | true =>
    rw [if_pos rfl] at e ⊢
    exact PySem.intText_neg e h1 h2 (by omega)
  | false =>
    rw [if_neg (by decide)] at e ⊢
    have e : t.cps.toList = ds := e
    have := PySem.intText_digits (x := t) (by rw [e]; exact h1) (by rw [e]; exact h2) (by omega)
    rw [e] at this
    exact this
def C__law_range_wrong : CT := fun ds μ Q => match ds with
  | [t] => ∃ ts : List Str, t = eToks ts ∧ ts.length ≤ 600 ∧ (∀ t ∈ ts, plainTok t) ∧ Q (.int (rwF ts)) μ
  | _ => False
theorem find_none_of {l : List Nat} {f : Nat → Bool} (h : ∀ j ∈ l, f j = false) : l.find? f = none := by
  rw [List.find?_eq_none]
  intro x hx
  rw [h x hx]; decide
theorem find_first {l pre post : List Nat} {k : Nat} {f : Nat → Bool} (e : l = pre ++ k :: post) (h : ∀ j ∈ pre, f j = false) (hk : f k = true) : l.find? f = some k := by
  rw [e, List.find?_append, find_none_of h, List.find?_cons, hk]; rfl
theorem range_at {n : Nat} {ks post : List Nat} {k : Nat} (e : List.range n = ks ++ k :: post) : k = ks.length ∧ k < n := by
  have h1 : (List.range n)[ks.length]? = (ks ++ k :: post)[ks.length]? := by rw [e]
  rw [List.getElem?_append_right (Nat.le_refl _), Nat.sub_self, List.getElem?_cons_zero] at h1
  obtain ⟨h2, h3⟩ := List.getElem?_eq_some_iff.mp h1
  rw [List.length_range] at h2
  rw [List.getElem_range] at h3
  omega
section
variable {P : Program} {w : World} {K : PySem.W.Frag} {mg : Str → Option Value} {base : Heap}
theorem ok__law_range_wrong (T : Tx K mg) : FnOk P w K mg base CX0 2 T.a__law_range_wrong T.d__law_range_wrong ["tokens"] (spD K C__law_range_wrong) :=
  DL.Fun.okD (N := ["tokens", "k", "at", "place", "form", "least", "most"]) T.F__law_range_wrong sc__law_range_wrong (fun cdv A outer s H E hr => 
      (dss_cons (ds_for PassesOwn.never rfl (di_rg1 (by rfl) T.b_range (da_cons (de_B L2.call_len cd_len (by rfl) T.b_len (by decide +kernel) (da_cons (dv 0) da_nil)) da_nil)) (dg_name 1 sc__law_range_wrong.nd) 
      (dss_one (ds_if (dt_cmp op_inD2 od_in (de_ix ix_seq od_ix (de_ix ix_seq od_ix (dv 0) (dv 1) (fun _ _ => rfl)) de_int (fun _ _ => rfl)) (de_str) (by rfl)) 
      (dss_cons (ds_set 2 sc__law_range_wrong.nd (de_call (ok__law_start_of T) (hr.mono (by decide)) (by rfl) T.m__law_start_of T.k__law_start_of T.v__law_start_of pass0 (da_cons (dv 0) (da_cons (dv 1) da_nil)))) 
      (dss_cons (ds_set 3 sc__law_range_wrong.nd (de_op op_sub od_sub (dv 1) (dv 2))) 
      (dss_cons (ds_set 4 sc__law_range_wrong.nd (de_ix ix_seq od_ix (dv 0) (dv 2) (fun _ _ => rfl))) 
      (dss_cons (ds_set 5 sc__law_range_wrong.nd (de_if (dw_pt (dw_or (dt_cmp (op_eqD hr.units) od_eq (dv 4) (de_str) (nomark _)) (dw_or1 (dw_pt (dw_and (dt_cmp (op_eqD hr.units) od_eq (dv 4) (de_str) (nomark _)) (dw_and1 (dt_cmp (op_eqD hr.units) od_eq (dv 3) de_int (nomark _)))))))) de_int de_int)) 
      (dss_cons (ds_set 6 sc__law_range_wrong.nd de_int) 
      (dss_cons (ds_if (dw_pt (dw_and (dt_cmp (op_eqD hr.units) od_eq (dv 4) (de_str) (nomark _)) (dw_and1 (dt_cmp (op_eqD hr.units) od_eq (dv 3) de_int (nomark _))))) 
      (dss_one (ds_asg (de_tup (da_cons (de_neg de_int) (da_cons de_int da_nil))) (dg_tup [5, 6] rfl (pgs_cons (pg_name (i := 5) sc__law_range_wrong.nd rfl (by first | exact Or.inl rfl | exact Or.inr rfl)) (pgs_cons (pg_name (i := 6) sc__law_range_wrong.nd rfl (by first | exact Or.inl rfl | exact Or.inr rfl)) pgs_nil))))) dss_nil) 
      (dss_one (ds_if (dt_not (dt_chain op_leD op_leD od_le od_le (dv 5) (de_T call_intS cd_intS (by rfl) T.b_int (by decide +kernel) (da_cons (de_ix ix_seq od_ix (dv 0) (dv 1) (fun _ _ => rfl)) da_nil)) (dv 6))) 
      (dss_one (ds_ret (dv 1))) dss_nil)))))))) dss_nil))) 
      (dss_one (ds_ret (de_neg de_int)))))
    (by intro ds μ Q h; unfold C__law_range_wrong at h; split at h <;> first | rfl | exact h.elim) (by
  intro ds μ Q h
  unfold C__law_range_wrong at h
  split at h
  · obtain ⟨ts, rfl, hl, ho, hq⟩ := h
    refine step_for (fun k : Nat => D.int (0 + (k : Nat))) (List.range ts.length) (fun ks ρ' μ' => (∃ a b c d e f, ρ' = [some (eToks ts), a, b, c, d, e, f]) ∧ μ = μ' ∧ ∀ j ∈ ks, outR ts j = false) (rg1 (i := ts.length) ⟨by omega, by omega⟩ fun R h => ?_) ⟨⟨_, _, _, _, _, _, rfl⟩, rfl, fun _ h => nomatch h⟩ (fun ks k post ρ' μ' e hI E1 hrt hE1 => ?_) fun ρ' μ' hI => ?_
    · (walk_at "dl")
      rw [List.length_map]
      exact h
    · obtain ⟨⟨a, b, c, d, e1, f, rfl⟩, rfl, hno⟩ := hI
      obtain ⟨hk1, hk2⟩ := range_at e
      have e0 : (0 : Int) + (k : Int) = (k : Nat) := by omega
      have hat := toks_at ts hk2
      have hm : tk ts k ∈ ts := by unfold tk; rw [List.getD_eq_getElem?_getD, List.getElem?_eq_getElem hk2]; exact List.getElem_mem _
      have hp := ho _ hm
      have hs := start_le ts k
      have hat2 := toks_at ts (k := startOf ts k) (by omega)
      have next : ∀ a b c d e f, outR ts k = false → E1.nx [some (eToks ts), a, b, c, d, e, f] μ := fun a b c d e f h => hE1 _ _ ⟨⟨_, _, _, _, _, _, rfl⟩, rfl, fun j hj => by
        rcases List.mem_append.mp hj with hj | hj
        · exact hno j hj
        · simp at hj; subst hj; exact h⟩
      have ret : outR ts k = true → E1.rt (.int (k : Nat)) μ := fun h => by
        rw [hrt]
        unfold rwF at hq
        rw [find_first e hno h] at hq
        exact hq
      rw [e0]
      (walk_at "dl")
      refine ⟨_, hat, ?_⟩
      (walk_at "dl")
      refine ⟨_, tok_at (plain_ok hp), ?_⟩
      rw [in_num]
      by_cases hsg : sgnd (tk ts k) = true
      · refine ite_t hsg ?_
        have hn := sg_num hp hsg
        refine ⟨ts, k, rfl, rfl, by omega, ?_⟩
        have leaf : ∀ (lo hi : Int) (d z z1 w1 w2 : Option D), rngOf (tk ts (startOf ts k)) (k - startOf ts k) = (lo, hi) → ∃ d_1, atI (ts.map D.str) (k : Int) = some d_1 ∧ fIntS μ [d_1] fun z_2 => fLe μ (D.int lo) z_2 fun z_3 => ∃ b, z_3 = D.bl b ∧
            if b = true then (fLe μ z_2 (D.int hi) fun z_4 => ∃ b, z_4 = D.bl b ∧ if (!b) = true then E1.rt (D.int (k : Int)) μ else E1.nx [some (eToks ts), some (D.int (k : Int)), d, z, z1, w1, w2] μ) else E1.rt (D.int (k : Int)) μ := by
          intro lo hi d z z1 w1 w2 hr
          refine ⟨_, hat, _, int_num hn hp.1, by have := hp.1; omega, _, rfl, ?_⟩
          unfold outR at next ret
          rw [hsg, hr] at next ret
          by_cases h1 : lo ≤ numV (tk ts k).cps.toList
          · refine ite_t (decide_eq_true h1) ⟨_, rfl, ?_⟩
            by_cases h2 : numV (tk ts k).cps.toList ≤ hi
            · exact ite_f (by simp [h2]) (next _ _ _ _ _ _ (by simp [h1, h2]))
            · exact ite_t (by simp [h2]) (ret (by simp [h2]))
          · exact ite_f (by simp [h1]) (ret (by simp [h1]))
        have es : (k : Int) - ((startOf ts k : Nat) : Int) = ((k - startOf ts k : Nat) : Int) := by omega
        (walk_at "dl")
        refine ⟨_, hat2, ?_⟩
        rw [es]
        generalize tk ts (startOf ts k) = form at leaf
        generalize k - startOf ts k = place at leaf
        (walk_at "dl")
        unfold rngOf at leaf
        by_cases f1 : form = "at"
        · have f2 : ¬ form = "write" := by rw [f1]; decide +kernel
          refine ite_t f1 (ite_f f2 (leaf 1 20 _ _ _ _ _ ?_))
          rw [if_neg (fun h => f2 h.1), if_pos (.inl f1)]
        · refine ite_f f1 ?_
          by_cases f2 : form = "write"
          · refine ite_t f2 ?_
            by_cases p1 : place = 1
            · refine ite_t (by omega) (ite_t f2 (ite_f (by omega) (leaf 1 20 _ _ _ _ _ ?_)))
              rw [if_neg (by omega), if_pos (.inr ⟨f2, p1⟩)]
            · refine ite_f (by omega) (ite_t f2 ?_)
              by_cases p4 : place = 4
              · refine ite_t (by omega) (leaf (-1000000) 1000000 _ _ _ _ _ ?_)
                rw [if_pos ⟨f2, p4⟩]
              · refine ite_f (by omega) (leaf 0 20 _ _ _ _ _ ?_)
                rw [if_neg (fun h => p4 h.2), if_neg (fun h => h.elim f1 fun h => p1 h.2)]
          · refine ite_f f2 (ite_f f2 (leaf 0 20 _ _ _ _ _ ?_))
            rw [if_neg (fun h => f2 h.1), if_neg (fun h => h.elim f1 fun h => f2 h.1)]
      · refine ite_f hsg (next _ _ _ _ _ _ ?_)
        unfold outR
        rw [Bool.not_eq_true] at hsg
        rw [hsg]; rfl
    · obtain ⟨⟨a, b, c, d, e, f, rfl⟩, rfl, hno⟩ := hI
      (walk_at "dl")
      unfold rwF at hq
      rw [find_none_of hno] at hq
      exact hq
  · exact h.elim
)
end
end K42
end

-- part EF
section
local macro_rules | `(tactic| walk_at "dl") => `(tactic| simp only [DL.sRet, DL.dJoined, DL.dJs, DL.dFmt, DL.dFld, DL.dMeth, DL.dMake, DL.sFld, DL.sFldI, DL.sSeq, DL.sSet, DL.sIf, DL.sNext, DL.sNever, DL.sDrop, DL.sAsg, DL.sRetN, DL.dVar, DL.dC, DL.dOp, DL.dTest, DL.dAnd, DL.dOr, DL.dNot, DL.dTru, DL.dAndV, DL.dOrV, DL.dNotV, DL.dIf, DL.aNil, DL.aCons, DL.dTup, DL.dLst, DL.dLstM, DL.dCall, DL.dFrz, DL.dB, DL.dNeg, DL.dSl, DL.oNone, DL.oSome, DL.dChn, DL.gN, DL.gT, DL.setAll, DL.fOf, DL.aNilX, DL.aConsX, DL.dTupX, DL.dLstMX, DL.dCallX, DL.dCallN, DL.dMethX, DL.xOf, DL.xNext, DL.xSeq, DL.xDrop, DL.xRet, DL.xIf, DL.xSet, DL.xFrz, DL.xApp, DL.xRaise, DL.dWix, DL.dWget, DL.optS,
  DL.ix_l, DL.ix_t, DL.ix_s, DL.ix_p, DL.add_i, DL.add_s, DL.add_l, DL.add_t, DL.mul_i, DL.mul_b, DL.sub_i, DL.fdiv_i, DL.mod_i, DL.pow_i, DL.shl_i, DL.shr_i, DL.and_i, DL.lt_i, DL.le_i, DL.gt_i, DL.ge_i, DL.le_s, DL.in_t, DL.in_l, DL.in_s, DL.len_l, DL.len_t, DL.len_s, DL.len_p, DL.list_l, DL.list_t, DL.list_s, DL.list_p, DL.tuple_l, DL.tuple_t, DL.int_i, DL.int_b, DL.abs_i, DL.max_i, DL.min_i, DL.all_l, DL.any_l, DL.isi_1, DL.isi_n, DL.sl_l, DL.sl_t, DL.sl_s, DL.neg_i, DL.isN_i, DL.notN_i, DL.eq_x, DL.ne_x,
  DL.w_wrote_many, DL.w_wrote_many_b, DL.w_wrote_among, DL.w_wrote_among_b, DL.w_wrote_did, DL.w_wrote_did_b, DL.w_wrote_times, DL.w_wrote_times_b, DL.w_wrote_value, DL.w_wrote_value_b, DL.w_wrote_head, DL.w_wrote_head_b, DL.w_many_wrote, DL.w_many_wrote_b, DL.w_many_among, DL.w_many_among_b, DL.w_many_did, DL.w_many_did_b, DL.w_many_times, DL.w_many_times_b, DL.w_many_value, DL.w_many_value_b, DL.w_many_head, DL.w_many_head_b, DL.w_among_wrote, DL.w_among_wrote_b, DL.w_among_many, DL.w_among_many_b, DL.w_among_did, DL.w_among_did_b, DL.w_among_times, DL.w_among_times_b, DL.w_among_value, DL.w_among_value_b, DL.w_among_head, DL.w_among_head_b, DL.w_did_wrote, DL.w_did_wrote_b, DL.w_did_many, DL.w_did_many_b, DL.w_did_among, DL.w_did_among_b, DL.w_did_times, DL.w_did_times_b, DL.w_did_value, DL.w_did_value_b, DL.w_did_head, DL.w_did_head_b, DL.w_times_wrote, DL.w_times_wrote_b, DL.w_times_many, DL.w_times_many_b, DL.w_times_among, DL.w_times_among_b, DL.w_times_did, DL.w_times_did_b, DL.w_times_value, DL.w_times_value_b, DL.w_times_head, DL.w_times_head_b, DL.w_value_wrote, DL.w_value_wrote_b, DL.w_value_many, DL.w_value_many_b, DL.w_value_among, DL.w_value_among_b, DL.w_value_did, DL.w_value_did_b, DL.w_value_times, DL.w_value_times_b, DL.w_value_head, DL.w_value_head_b, DL.w_head_wrote, DL.w_head_wrote_b, DL.w_head_many, DL.w_head_many_b, DL.w_head_among, DL.w_head_among_b, DL.w_head_did, DL.w_head_did_b, DL.w_head_times, DL.w_head_times_b, DL.w_head_value, DL.w_head_value_b,
  DL.q_ss, DL.q_ii, DL.q_bb, DL.q_nn, DL.q_tt, DL.q_ll, DL.q_si, DL.q_sn, DL.q_st, DL.q_sl, DL.q_is, DL.q_in, DL.q_it, DL.q_il, DL.q_ns, DL.q_ni, DL.q_nt, DL.q_nl, DL.q_ts, DL.q_ti, DL.q_tn, DL.q_tl, DL.q_ls, DL.q_li, DL.q_ln, DL.q_lt, DL.qs_nil, DL.qs_cons, DL.qs_nc, DL.qs_cn, DL.p_t16, DL.p_l16, DL.p_t15, DL.p_l15, DL.p_t14, DL.p_l14, DL.p_t13, DL.p_l13, DL.p_t12, DL.p_l12, DL.p_s, DL.p_i, DL.p_b, DL.p_n, DL.ps_nil, DL.ps_cons, DL.t_b, DL.t_i, DL.t_l, DL.t_t, DL.t_n, DL.n_n, DL.n_i, DL.n_s, DL.n_t, DL.n_l, DL.n_b, DL.f_s, DL.f_i,
  Bool.false_and, Bool.and_false, DL.z0, DL.z1, DL.z2, DL.z3, DL.z4, DL.z5, DL.z6, DL.z12,
  DL.startD, DL.sFrz, DL.sApp, DL.yesD, DL.lcTurn, DL.wipeE, DL.at0, DL.at1, DL.at2, DL.at3, DL.at4, List.map_cons, List.map_nil, List.replicate_succ, List.replicate_zero, List.length_cons, List.length_nil, List.cons_append, List.nil_append, List.set_cons_zero, List.set_cons_succ, List.getElem?_cons_zero, List.getElem?_cons_succ, Option.some.injEq, exists_eq_left, exists_eq_left', exists_eq', exists_eq, true_and, and_true, decide_eq_true_eq, if_true, if_false, Bool.false_eq_true, reduceIte, Nat.reduceAdd, Nat.reduceSub, DL.D.bl.injEq, DL.D.int.injEq, DL.D.str.injEq, DL.D.tup.injEq, DL.D.lst.injEq, DL.D.ptr.injEq, Bool.not_true, Bool.not_false, beq_self_eq_true, List.all_cons, List.all_nil, List.any_cons, List.any_nil, Bool.and_true, Bool.true_and, Bool.or_false, Bool.false_or, Bool.or_true, Bool.true_or, Bool.false_xor, Bool.true_xor, beq_iff_eq, Bool.not_eq_true, Int.reduceEq, Int.reduceBEq, and_self])

namespace K42
open PySem L2 DL
def isOdd (t : Str) : Bool := decide (t = "-") || decide (t = "=")
/-- the state behind k tokens -/
def runS (ts : List Str) : Nat → Option Sx
  | 0 => some .start
  | k + 1 => match runS ts k with
    | some s => nx s (tk ts k)
    | none => none
def badK (ts : List Str) (tg : List Nat) (k : Nat) : Bool := (runS ts (k + 1)).isNone || decide (k ∈ tg)
def isFin : Option Sx → Bool
  | some .behind => true
  | some .more => true
  | _ => false
def dueF (ts : List Str) (tl : Nat) (pl tg : List Nat) : Str × Nat :=
  match (List.range ts.length).find? (fun k => isOdd (tk ts k)) with
  | some k => ("unknown character", pl.getD k 0)
  | none => match (List.range ts.length).find? (badK ts tg) with
    | some k => ("unexpected token", pl.getD k 0)
    | none => if ts ≠ [] ∧ isFin (runS ts ts.length) = false then ("unexpected end", tl) else
      match (List.range ts.length).find? (outR ts) with
      | some k => ("number out of range", pl.getD k 0)
      | none => if 40 < (ts.filter (fun t => decide (t = (";" : Str)))).length + 1 then ("too many pieces", pl.getD 0 0) else ("news", 0)
def C__law_due : CT := fun ds μ Q => match ds with
  | [t, .str x, .lst a, .lst b] => ∃ (ts : List Str) (pl tg : List Nat), t = eToks ts ∧ a = eInts pl ∧ b = eInts tg ∧ ts.length ≤ 600 ∧ pl.length = ts.length ∧ (∀ t ∈ ts, okTok t) ∧ Q (.tup [.str (dueF ts x.length pl tg).1, .int (dueF ts x.length pl tg).2]) μ
  | _ => False
theorem odd_b (t : Str) : (Str.ofString "-" == t || Str.ofString "=" == t) = isOdd t := by
  unfold isOdd
  by_cases h1 : t = "-"
  · subst h1; decide +kernel
  · by_cases h2 : t = "="
    · subst h2; decide +kernel
    · have e1 : (Str.ofString "-" == t) = false := by simpa using fun e : Str.ofString "-" = t => h1 e.symm
      have e2 : (Str.ofString "=" == t) = false := by simpa using fun e : Str.ofString "=" = t => h2 e.symm
      rw [e1, e2, decide_eq_false h1, decide_eq_false h2]
def sepD (t : Str) : Option D := if t = ";" then some (D.str t) else none
theorem flt_len (l : List Str) : (l.filterMap sepD).length = (l.filter (fun t => decide (t = (";" : Str)))).length := by
  induction l with
  | nil => rfl
  | cons a l ih =>
    by_cases h : a = ";"
    · rw [List.filterMap_cons_some (b := D.str a) (by unfold sepD; rw [if_pos h]), List.filter_cons_of_pos (by simpa using h), List.length_cons, List.length_cons, ih]
    · rw [List.filterMap_cons_none (by unfold sepD; rw [if_neg h]), List.filter_cons_of_neg (by simpa using h), ih]
theorem ints_at (l : List Nat) {k : Nat} (h : k < l.length) : atI (eInts l) (k : Int) = some (.int (l.getD k 0 : Nat)) := by
  unfold eInts
  rw [atI_map, atG (0 : Nat) (by omega) (by omega), Int.toNat_natCast]; rfl
theorem in_ints (l : List Nat) (k : Nat) : ((eInts l).any fun e => eqvD e (.int (k : Nat))) = decide (k ∈ l) := by
  induction l with
  | nil => rfl
  | cons a l ih =>
    unfold eInts at ih ⊢
    rw [List.map_cons, List.any_cons, ih, q_ii]
    by_cases h : a = k
    · subst h; simp
    · have : ¬ (a : Int) = (k : Int) := by omega
      have h2 : ¬ k = a := fun e => h e.symm
      simp [this, h2]
theorem flat_ints (l : List Nat) : (eInts l).all flatD = true := by
  unfold eInts
  rw [List.all_map, List.all_eq_true]
  intro x _; rfl
theorem in_il {neg : Bool} {μ : Mu} {i : Int} {ds : List D} {P : D → Prop} : fIn neg μ (.int i) (.lst ds) P = (ds.all flatD = true ∧ P (.bl (neg ^^ ds.any fun e => eqvD e (.int i)))) := by simp [fIn, flatD]
section
variable {P : Program} {w : World} {K : PySem.W.Frag} {mg : Str → Option Value} {base : Heap}
theorem ok__law_due (T : Tx K mg) : FnOk P w K mg base CX0 3 T.a__law_due T.d__law_due ["tokens", "text", "places", "tight"] (spD K C__law_due) :=
  DL.Fun.okD (N := ["tokens", "text", "places", "tight", "k", "state", "wrong", "many", "token"]) T.F__law_due sc__law_due (fun cdv A outer s H E hr => 
      (dss_cons (ds_for PassesOwn.never rfl (di_rg1 (by rfl) T.b_range (da_cons (de_B L2.call_len cd_len (by rfl) T.b_len (by decide +kernel) (da_cons (dv 0) da_nil)) da_nil)) (dg_name 4 sc__law_due.nd) 
      (dss_one (ds_if (dt_cmp op_inD2 od_in (de_ix ix_seq od_ix (dv 0) (dv 4) (fun _ _ => rfl)) (de_tup (da_cons (de_str) (da_cons (de_str) da_nil))) (by rfl)) 
      (dss_one (ds_ret (de_tup (da_cons (de_str) (da_cons (de_ix ix_seq od_ix (dv 2) (dv 4) (fun _ _ => rfl)) da_nil))))) dss_nil))) 
      (dss_cons (ds_set 5 sc__law_due.nd (de_str)) 
      (dss_cons (ds_for PassesOwn.never rfl (di_rg1 (by rfl) T.b_range (da_cons (de_B L2.call_len cd_len (by rfl) T.b_len (by decide +kernel) (da_cons (dv 0) da_nil)) da_nil)) (dg_name 4 sc__law_due.nd) 
      (dss_cons (ds_set 5 sc__law_due.nd (de_call (ok__law_next_states T) (hr.mono (by decide)) (by rfl) T.m__law_next_states T.k__law_next_states T.v__law_next_states pass0 (da_cons (dv 5) (da_cons (de_ix ix_seq od_ix (dv 0) (dv 4) (fun _ _ => rfl)) da_nil)))) 
      (dss_one (ds_if (dw_pt (dw_or (dt_cmp op_isN od_isN (dv 5) de_non (nomark _)) (dw_or1 (dt_cmp op_inD2 od_in (dv 4) (dv 3) (by rfl))))) 
      (dss_one (ds_ret (de_tup (da_cons (de_str) (da_cons (de_ix ix_seq od_ix (dv 2) (dv 4) (fun _ _ => rfl)) da_nil))))) dss_nil)))) 
      (dss_cons (ds_if (dw_pt (dw_and (dt_tru (dv 0)) (dw_and1 (dt_cmp op_notInD2 od_notIn (dv 5) (de_tup (da_cons (de_str) (da_cons (de_str) da_nil))) (by rfl))))) 
      (dss_one (ds_ret (de_tup (da_cons (de_str) (da_cons (de_B L2.call_len cd_len (by rfl) T.b_len (by decide +kernel) (da_cons (dv 1) da_nil)) da_nil))))) dss_nil) 
      (dss_cons (ds_set 6 sc__law_due.nd (de_call (ok__law_range_wrong T) (hr.mono (by decide)) (by rfl) T.m__law_range_wrong T.k__law_range_wrong T.v__law_range_wrong pass0 (da_cons (dv 0) da_nil))) 
      (dss_cons (ds_if (dt_cmp op_geD od_ge (dv 6) de_int (nomark _)) 
      (dss_one (ds_ret (de_tup (da_cons (de_str) (da_cons (de_ix ix_seq od_ix (dv 2) (dv 6) (fun _ _ => rfl)) da_nil))))) dss_nil) 
      (dss_cons (ds_set 7 sc__law_due.nd (de_op op_addD od_add (de_B L2.call_len cd_len (by rfl) T.b_len (by decide +kernel) (da_cons (de_lc [("token", 8)] rfl sc__law_due.nd (di_seq (dv 0)) (blkOk_by (sc := (defScope s__law_due)) (own := [("token", 8)]) (N := ["tokens", "text", "places", "tight", "k", "state", "wrong", "many", "token"]) (by decide +kernel)) (fun _ _ _ _ _ => (dg_name 8 sc__law_due.nd)) (fun _ _ _ _ _ => dts_one (dt_cmp (op_eqD hr.units) od_eq (dv 8) (de_str) (nomark _))) (fun _ _ _ _ _ => (dv 8))) da_nil)) de_int)) 
      (dss_one (ds_ret (de_if (dt_cmp op_gtD od_gt (dv 7) de_int (nomark _)) (de_tup (da_cons (de_str) (da_cons (de_ix ix_seq od_ix (dv 2) de_int (fun _ _ => rfl)) da_nil))) (de_tup (da_cons (de_str) (da_cons de_int da_nil))))))))))))))
    (by intro ds μ Q h; unfold C__law_due at h; split at h <;> first | rfl | exact h.elim) (by
  intro ds μ Q h
  unfold C__law_due at h
  split at h
  · rename_i ds' t x a b
    obtain ⟨ts, pl, tg, rfl, rfl, rfl, hl, hpl, ho, hq⟩ := h
    have rg : ∀ R : List D → Mu → Prop, R ((List.range ts.length).map fun k : Nat => D.int (0 + (k : Nat))) μ → R (rngD 0 (ts.length : Int).toNat) μ := fun R h => by rw [Int.toNat_natCast]; exact h
    refine step_for (fun k : Nat => D.int (0 + (k : Nat))) (List.range ts.length) (fun ks ρ' μ' => (∃ a b c d e, ρ' = [some (eToks ts), some (.str x), some (.lst (eInts pl)), some (.lst (eInts tg)), a, b, c, d, e]) ∧ μ = μ' ∧ ∀ j ∈ ks, isOdd (tk ts j) = false) (rg1 (i := ts.length) ⟨by omega, by omega⟩ fun R h => ?_) ⟨⟨_, _, _, _, _, rfl⟩, rfl, fun _ h => nomatch h⟩ (fun ks k post ρ' μ' e hI E1 hrt hE1 => ?_) fun ρ' μ' hI => ?_
    · (walk_at "dl")
      rw [List.length_map]
      exact h
    · obtain ⟨⟨a, b, c, d, e1, rfl⟩, rfl, hno⟩ := hI
      obtain ⟨hk1, hk2⟩ := range_at e
      have e0 : (0 : Int) + (k : Int) = (k : Nat) := by omega
      have hat := toks_at ts hk2
      rw [e0]
      (walk_at "dl")
      refine ⟨_, hat, ?_⟩
      (walk_at "dl")
      by_cases ho2 : isOdd (tk ts k) = true
      · refine ite_t ?_ ⟨_, ints_at pl (by omega), ?_⟩
        · exact (odd_b _).trans ho2
        · rw [hrt]
          unfold dueF at hq
          rw [find_first e hno ho2] at hq
          exact hq
      · refine ite_f ?_ (hE1 _ _ ⟨⟨_, _, _, _, _, rfl⟩, rfl, fun j hj => ?_⟩)
        · rw [odd_b]; exact ho2
        · rcases List.mem_append.mp hj with hj | hj
          · exact hno j hj
          · simp at hj; subst hj; simpa using ho2
    · obtain ⟨⟨a, b, c, d, e, rfl⟩, rfl, hno⟩ := hI
      unfold dueF at hq
      rw [find_none_of hno] at hq
      simp only at hq
      refine step_set (fun d μ' => d = .str (stS .start) ∧ μ = μ') (fun R hR => ?_) fun d μ' hS => ?_
      · (walk_at "dl")
        exact hR _ _ ⟨rfl, rfl⟩
      obtain ⟨rfl, rfl⟩ := hS
      simp only [List.set_cons_zero, List.set_cons_succ]
      refine step_for (fun k : Nat => D.int (0 + (k : Nat))) (List.range ts.length) (fun ks ρ' μ' => (∃ a b c d, ∃ s : Sx, runS ts ks.length = some s ∧ ρ' = [some (eToks ts), some (.str x), some (.lst (eInts pl)), some (.lst (eInts tg)), a, some (.str (stS s)), b, c, d]) ∧ μ = μ' ∧ ∀ j ∈ ks, badK ts tg j = false) (rg1 (i := ts.length) ⟨by omega, by omega⟩ fun R h => ?_) ⟨⟨_, _, _, _, .start, rfl, rfl⟩, rfl, fun _ h => nomatch h⟩ (fun ks k post ρ' μ' e hI E1 hrt hE1 => ?_) fun ρ' μ' hI => ?_
      · (walk_at "dl")
        rw [List.length_map]
        exact h
      · obtain ⟨⟨a, b, c, d, s, hs, rfl⟩, rfl, hno2⟩ := hI
        obtain ⟨hk1, hk2⟩ := range_at e
        have e0 : (0 : Int) + (k : Int) = (k : Nat) := by omega
        have hat := toks_at ts hk2
        have htk := tk_ok ho k
        rw [← hk1] at hs
        have hs1 : runS ts (k + 1) = nx s (tk ts k) := by
          show (match runS ts k with | some s => nx s (tk ts k) | none => none) = _
          rw [hs]
        rw [e0]
        (walk_at "dl")
        refine ⟨_, hat, s, rfl, htk, ?_⟩
        simp only [in_il]
        have ret : badK ts tg k = true → E1.rt (D.tup [D.str (Str.ofString "unexpected token"), .int (pl.getD k 0 : Nat)]) μ := fun h => by
          rw [hrt]
          rw [find_first e hno2 h] at hq
          exact hq
        cases hx : nx s (tk ts k) with
        | none => exact ite_t rfl ⟨_, ints_at pl (by omega), ret (by unfold badK; rw [hs1, hx]; rfl)⟩
        | some s2 =>
          refine ite_f (by show ¬ (false = true); decide) ⟨flat_ints tg, _, rfl, ?_⟩
          rw [in_ints, Bool.false_xor]
          by_cases hm : k ∈ tg
          · exact ite_t (decide_eq_true hm) ⟨_, ints_at pl (by omega), ret (by unfold badK; rw [decide_eq_true hm, Bool.or_true])⟩
          · refine ite_f (by simp [hm]) (hE1 _ _ ⟨⟨_, _, _, _, s2, ?_, rfl⟩, rfl, fun j hj => ?_⟩)
            · rw [List.length_append, List.length_singleton, ← hk1, hs1, hx]
            · rcases List.mem_append.mp hj with hj | hj
              · exact hno2 j hj
              · simp at hj; subst hj
                unfold badK
                rw [hs1, hx, decide_eq_false hm]
                rfl
      · obtain ⟨⟨a, b, c, d, s, hs, rfl⟩, rfl, hno2⟩ := hI
        rw [find_none_of hno2] at hq
        rw [List.length_range] at hs
        simp only at hq
        (walk_at "dl")
        have hplain : ∀ t ∈ ts, plainTok t := fun t ht => by
          obtain ⟨j, hj, e2⟩ := List.getElem_of_mem ht
          have h1 := hno j (List.mem_range.mpr hj)
          have e3 : tk ts j = t := by unfold tk; rw [List.getD_eq_getElem?_getD, List.getElem?_eq_getElem hj, e2]; rfl
          rw [e3] at h1
          unfold isOdd at h1
          have h2 := ho t ht
          refine ⟨h2.1, ?_⟩
          rcases h2.2 with h | h | h | h | h
          · exact .inl h
          · rw [decide_eq_true h] at h1; cases h1
          · rw [decide_eq_true h, Bool.or_true] at h1; cases h1
          · exact .inr (.inl h)
          · exact .inr (.inr h)
        have fin : ∀ a s' c d, ¬ (ts ≠ [] ∧ isFin (runS ts ts.length) = false) → C__law_range_wrong [eToks ts] μ fun d_1 μ1 => fGe μ1 d_1 (D.int 0) fun z => ∃ b, z = D.bl b ∧
            if b = true then fIx μ1 (D.lst (eInts pl)) d_1 fun z => Q (D.tup [D.str (Str.ofString "number out of range"), z]) μ1
            else dLc (iSeq (dVar 0)) (gN 8) (dTest (dOp fEq (dVar 8) (dC (D.str (Str.ofString ";"))))) (dVar 8) [8] [some (eToks ts), some (D.str x), some (D.lst (eInts pl)), some (D.lst (eInts tg)), a, s', some d_1, c, d] μ1 fun d μ1 =>
              fLen μ1 [d] fun z => fAdd μ1 z (D.int 1) fun z => fGt μ1 z (D.int 40) fun z => ∃ b, z = D.bl b ∧
                if b = true then ∃ d, atI (eInts pl) 0 = some d ∧ Q (D.tup [D.str (Str.ofString "too many pieces"), d]) μ1 else Q (D.tup [D.str (Str.ofString "news"), D.int 0]) μ1 := by
          intro a s' c d hne
          rw [if_neg hne] at hq
          refine ⟨ts, rfl, hl, hplain, ?_⟩
          unfold rwF
          cases hf : (List.range ts.length).find? (outR ts) with
          | some k =>
            rw [hf] at hq
            have hk : k < ts.length := List.mem_range.mp (List.mem_of_find?_eq_some hf)
            refine ⟨_, rfl, ite_t (decide_eq_true (show ((k : Nat) : Int) ≥ 0 by omega)) ?_⟩
            exact ⟨_, ints_at pl (by omega), hq⟩
          | none =>
            rw [hf] at hq
            simp only at hq
            refine ⟨_, rfl, ite_f (by decide) ?_⟩
            refine lc_fmapT ts D.str sepD (seq_l fun R h => ?_) (fun t ht p acc hp N hN => ?_) ?_
            · (walk_at "dl")
              exact h
            · (walk_at "dl")
              by_cases h : t = ";"
              · exact ite_t h (hN _ (by unfold sepD; rw [if_pos h]))
              · exact ite_f h (hN _ (by unfold sepD; rw [if_neg h]))
            · (walk_at "dl")
              rw [flt_len]
              by_cases h40 : 40 < (ts.filter (fun t => decide (t = (";" : Str)))).length + 1
              · rw [if_pos h40] at hq
                have hle := List.length_filter_le (fun t => decide (t = (";" : Str))) ts
                refine ite_t (by omega) ⟨_, ?_, hq⟩
                exact ints_at pl (k := 0) (by omega)
              · rw [if_neg h40] at hq
                exact ite_f (by omega) hq
        have hfin : (!(Str.ofString "behind" == stS s || Str.ofString "more" == stS s)) = !isFin (some s) := by cases s <;> decide +kernel
        rw [hfin]
        by_cases he : ts = []
        · exact ite_f (by rw [he]; decide) (fin _ _ _ _ fun h => h.1 he)
        · refine ite_t (by cases ts with | nil => exact absurd rfl he | cons _ _ => rfl) ?_
          cases hb : isFin (some s) with
          | true => exact ite_f (by decide) (fin _ _ _ _ fun h => by rw [hs, hb] at h; cases h.2)
          | false =>
            refine ite_t (by decide) ?_
            rw [if_pos ⟨he, by rw [hs, hb]⟩] at hq
            exact hq
  · exact h.elim
)
end
end K42
end

-- part EG
section
namespace K42
open PySem L2 DL PySem.NumText
/-! ### the reading is a walk through states -/
def WfT (t : Tk) : Prop := t.k = "glued" ∨ (t.k = "separator" ∧ tS t = ";") ∨ (t.k = "word" ∧ isWd (tS t)) ∨ (t.k = "number" ∧ NumT t.t)
def isGl (t : Tk) : Bool := t.k == ("glued" : Str)
def stepT (s : Sx) (t : Tk) : Option Sx := if isGl t = true then none else nx s (tS t)
def rngS : Sx → Option (Int × Int)
  | .verAt => some (1, 20) | .verBy => some (0, 20) | .write => some (1, 20) | .numH => some (0, 20) | .numM => some (1, 20) | .numT => some (0, 20) | .numO => some (-1000000, 1000000)
  | _ => none
def updB (s : Sx) (t : Tk) (b : Option Nat) : Option Nat := match rngS s with
  | some r => if b = none ∧ ¬ (r.1 ≤ numV t.t ∧ numV t.t ≤ r.2) then some t.p else b
  | none => b
inductive Au where
  | er (p : Nat) (m : Str) | done (c : Nat) (b : Option Nat)
def auto : Sx → List Tk → Option Nat → Nat → Au
  | _, [], _, _ => .er 0 ⟨#[]⟩
  | s, t :: r, b, c => if isEnd t = true then (if isFin (some s) = true then .done c b else .er t.p "unexpected end") else match stepT s t with
    | none => .er t.p "unexpected token"
    | some s' => auto s' r (updB s t b) (if isSep t = true then c + 1 else c)
def WW (l : List Tk) : Prop := ∃ (body : List Tk) (e : Tk), l = body ++ [e] ∧ isEnd e = true ∧ ∀ t ∈ body, isEnd t = false ∧ WfT t
theorem WW.cases {l : List Tk} (h : WW l) : ∃ t r, l = t :: r ∧ ((isEnd t = true ∧ r = []) ∨ (isEnd t = false ∧ WfT t ∧ WW r)) := by
  obtain ⟨body, e, rfl, he, hb⟩ := h
  cases body with
  | nil => exact ⟨e, [], rfl, .inl ⟨he, rfl⟩⟩
  | cons a b => exact ⟨a, b ++ [e], rfl, .inr ⟨(hb a (by simp)).1, (hb a (by simp)).2, b, e, rfl, he, fun t ht => hb t (by simp [ht])⟩⟩
theorem err_end {t : Tk} (h : isEnd t = true) : errAt t = "unexpected end" := by unfold errAt; rw [if_pos (eq_of_beq h)]
theorem err_tok {t : Tk} (h : isEnd t = false) : errAt t = "unexpected token" := by unfold errAt; rw [if_neg (by simpa [isEnd] using h)]
/-- M walks from s -/
def Sim {α : Type} (s : Sx) (M : PM α) (post : α → Sx → List Tk → Prop) : Prop := ∀ l b c, WW l → match M l b with
  | .er p m => auto s l b c = .er p m
  | .ok v n b1 => ∃ s', post v s' (l.drop n) ∧ WW (l.drop n) ∧ auto s l b c = auto s' (l.drop n) b1 c
theorem sim_bind {α β : Type} {s : Sx} {M : PM α} {k : α → PM β} {p1 : α → Sx → List Tk → Prop} {p2 : β → Sx → List Tk → Prop} (h1 : Sim s M p1) (h2 : ∀ v s' l b c, p1 v s' l → WW l → match k v l b with
  | .er p m => auto s' l b c = .er p m
  | .ok v n b1 => ∃ s2, p2 v s2 (l.drop n) ∧ WW (l.drop n) ∧ auto s' l b c = auto s2 (l.drop n) b1 c) : Sim s (M.bind k) p2 := by
  intro l b c hw
  have a1 := h1 l b c hw
  unfold PM.bind
  cases hm : M l b with
  | er p m => rw [hm] at a1; exact a1
  | ok v n b1 =>
    rw [hm] at a1
    obtain ⟨s', q, w, e⟩ := a1
    have a2 := h2 v s' (l.drop n) b1 c q w
    simp only
    cases hk : k v (l.drop n) b1 with
    | er p m => rw [hk] at a2; simp only at a2 ⊢; rw [e]; exact a2
    | ok w2 n2 b2 =>
      rw [hk] at a2
      simp only at a2 ⊢
      obtain ⟨s2, q2, w3, e2⟩ := a2
      rw [List.drop_drop] at q2 w3 e2
      exact ⟨s2, q2, w3, by rw [e]; exact e2⟩
theorem sim_weak {α : Type} {s : Sx} {M : PM α} {p1 p2 : α → Sx → List Tk → Prop} (h : Sim s M p1) (hp : ∀ v s' l, p1 v s' l → p2 v s' l) : Sim s M p2 := by
  intro l b c hw
  have a := h l b c hw
  cases hm : M l b with
  | er p m => rw [hm] at a; exact a
  | ok v n b1 =>
    rw [hm] at a
    obtain ⟨s', q, w⟩ := a
    exact ⟨s', hp _ _ _ q, w⟩
theorem sim_pure {α : Type} {s : Sx} {v : α} {post : α → Sx → List Tk → Prop} (h : ∀ l, WW l → post v s l) : Sim s (PM.pure v) post := by
  intro l b c hw
  exact ⟨s, h _ hw, hw, rfl⟩
theorem sim_take {s : Sx} {f : Tk → Bool} {post : Str → Sx} (hE : ∀ t, isEnd t = true → f t = false) (hS : ∀ t, isSep t = true → f t = false) (hf : isFin (some s) = false) (hr : rngS s = none)
    (h1 : ∀ t, WfT t → f t = true → stepT s t = some (post (tS t))) (h0 : ∀ t, WfT t → f t = false → stepT s t = none) : Sim s (mTake f) (fun v s' _ => s' = post v) := by
  intro l b c hw
  obtain ⟨t, r, rfl, h | ⟨he, hwf, hw'⟩⟩ := hw.cases
  · obtain ⟨he, rfl⟩ := h
    unfold mTake
    simp only [hE t he, Bool.false_eq_true, if_false]
    unfold auto
    rw [if_pos he, hf, err_end he]
    rfl
  · unfold mTake
    simp only
    cases hft : f t with
    | true =>
      simp only [if_true]
      refine ⟨_, rfl, hw', ?_⟩
      have hns : isSep t = false := by cases hs : isSep t with | false => rfl | true => rw [hS t hs] at hft; cases hft
      show auto s (t :: r) b c = auto (post (tS t)) r b c
      rw [auto, if_neg (by rw [he]; decide), h1 t hwf hft]
      simp only [hns, Bool.false_eq_true, if_false]
      unfold updB
      rw [hr]
    | false =>
      simp only [Bool.false_eq_true, if_false]
      rw [auto, if_neg (by rw [he]; decide), h0 t hwf hft, err_tok he]
theorem sim_num {s s' : Sx} {lo hi : Int} (hf : isFin (some s) = false) (hr : rngS s = some (lo, hi)) (h1 : ∀ t, WfT t → isNum t = true → stepT s t = some s') (h0 : ∀ t, WfT t → isNum t = false → stepT s t = none) : Sim s (mNum lo hi) (fun _ s2 _ => s2 = s') := by
  intro l b c hw
  obtain ⟨t, r, rfl, h | ⟨he, hwf, hw'⟩⟩ := hw.cases
  · obtain ⟨he, rfl⟩ := h
    have hn : isNum t = false := by
      have := eq_of_beq he
      unfold isNum
      rw [this]; decide +kernel
    unfold mNum
    simp only [hn, Bool.false_eq_true, if_false]
    unfold auto
    rw [if_pos he, hf, err_end he]
    rfl
  · unfold mNum
    simp only
    cases hft : isNum t with
    | true =>
      simp only [if_true]
      refine ⟨_, rfl, hw', ?_⟩
      have hns : isSep t = false := by
        have := eq_of_beq hft
        unfold isSep
        rw [this]; decide +kernel
      show auto s (t :: r) b c = auto s' r _ c
      rw [auto, if_neg (by rw [he]; decide), h1 t hwf hft]
      simp only [hns, Bool.false_eq_true, if_false]
      unfold updB
      rw [hr]
    | false =>
      simp only [Bool.false_eq_true, if_false]
      rw [auto, if_neg (by rw [he]; decide), h0 t hwf hft, err_tok he]
end K42
end

-- part EH
section
namespace K42
open PySem L2 DL PySem.NumText
theorem k_gs : ((("glued" : Str) == "separator") = false) := by decide +kernel
theorem k_gw : ((("glued" : Str) == "word") = false) := by decide +kernel
theorem k_gn : ((("glued" : Str) == "number") = false) := by decide +kernel
theorem k_sg : ((("separator" : Str) == "glued") = false) := by decide +kernel
theorem k_sw : ((("separator" : Str) == "word") = false) := by decide +kernel
theorem k_sn : ((("separator" : Str) == "number") = false) := by decide +kernel
theorem k_wg : ((("word" : Str) == "glued") = false) := by decide +kernel
theorem k_ws : ((("word" : Str) == "separator") = false) := by decide +kernel
theorem k_wn : ((("word" : Str) == "number") = false) := by decide +kernel
theorem k_ng : ((("number" : Str) == "glued") = false) := by decide +kernel
theorem k_ns : ((("number" : Str) == "separator") = false) := by decide +kernel
theorem k_nw : ((("number" : Str) == "word") = false) := by decide +kernel
theorem tS_list (t : Tk) : (tS t).cps.toList = t.t := rfl
theorem tS_len (t : Tk) : (tS t).length = t.t.length := by show t.t.toArray.size = _; rw [List.size_toArray]
theorem wd_c0 {s : Str} (h : isWd s) : isL (c0 s) = true ∧ isD (c0 s) = false ∧ c0 s ≠ 45 ∧ s ≠ ";" := by
  obtain ⟨h1, h2⟩ := h
  have h3 : isL (c0 s) = true := by
    unfold c0
    cases e : s.cps.toList with
    | nil => exact absurd e h1
    | cons a l => exact h2 a (by rw [e]; simp)
  refine ⟨h3, ?_, ?_, fun e => ?_⟩
  · simp [isL] at h3; simp [isD]; omega
  · simp [isL] at h3; omega
  · subst e; exact absurd h3 (by decide +kernel)
theorem num_c0 {t : List Nat} (h : NumT t) : (t.headD 0 = 45 ∨ isD (t.headD 0) = true) ∧ isL (t.headD 0) = false ∧ t ≠ [45] ∧ t ≠ [59] := by
  obtain ⟨neg, ds, e, h1, h2, _⟩ := h
  cases ds with
  | nil => exact absurd rfl h2
  | cons d l =>
    have hd := h1 d (by simp)
    cases neg with
    | true =>
      rw [if_pos rfl] at e
      subst e
      exact ⟨.inl rfl, (by show isL 45 = false; decide), by simp, by simp⟩
    | false =>
      rw [if_neg (by decide)] at e
      subst e
      have hh : (([] : List Nat) ++ d :: l).headD 0 = d := rfl
      rw [hh]
      refine ⟨.inr (by simp [isD]; omega), by simp [isL]; omega, fun e => ?_, fun e => ?_⟩
      · injection e with e1 _; omega
      · injection e with e1 _; omega
theorem str_eq {s : Str} {l : List Nat} (h : s = ⟨l.toArray⟩) : s.cps.toList = l := by subst h; rfl
theorem num_numb {s : Str} (h : NumT s.cps.toList) : numb s = true ∧ wordK s = false ∧ s ≠ ";" := by
  obtain ⟨h1, h2, h3, h4⟩ := num_c0 h
  refine ⟨?_, ?_, fun e => h4 (by subst e; decide +kernel)⟩
  · unfold numb c0
    have hne : s ≠ "-" := fun e => h3 (by subst e; decide +kernel)
    rw [decide_eq_true hne, Bool.and_true]
    rcases h1 with h | h
    · rw [decide_eq_true h]; rfl
    · rw [h, Bool.or_true]
  · unfold wordK c0; rw [h2]; rfl
theorem wd_numb {s : Str} (h : isWd s) : numb s = false := by
  obtain ⟨h1, h2, h3, _⟩ := wd_c0 h
  unfold numb
  rw [h2, decide_eq_false h3]; rfl
theorem sep_numb : numb ";" = false ∧ wordK ";" = false := by decide +kernel
theorem kinds {t : Tk} (h : WfT t) : (isGl t = true ∧ isNum t = false ∧ isKey t = false ∧ isSep t = false ∧ ∀ ks, isWord ks t = false) ∨
    (isGl t = false ∧ isNum t = numb (tS t) ∧ isKey t = wordK (tS t) ∧ isSep t = decide (tS t = ";") ∧ ∀ ks : List Str, (∀ k ∈ ks, isWd k) → isWord ks t = decide (tS t ∈ ks)) := by
  unfold isGl isNum isKey isSep isWord
  rcases h with h | ⟨h, h2⟩ | ⟨h, h2⟩ | ⟨h, h2⟩ <;> rw [h]
  · exact .inl ⟨beq_self_eq_true _, k_gn, by rw [k_gw]; rfl, k_gs, fun ks => by rw [k_gw]; rfl⟩
  · refine .inr ⟨k_sg, by rw [k_sn, h2]; exact sep_numb.1.symm, by rw [k_sw, h2]; exact sep_numb.2.symm, by rw [beq_self_eq_true, h2]; simp, fun ks hks => ?_⟩
    rw [k_sw, h2, Bool.false_and]
    symm
    rw [decide_eq_false_iff_not]
    intro hm
    exact (wd_c0 (hks _ hm)).2.2.2 rfl
  · refine .inr ⟨k_wg, by rw [k_wn]; exact (wd_numb h2).symm, ?_, by rw [k_ws, decide_eq_false (wd_c0 h2).2.2.2], fun ks hks => by rw [beq_self_eq_true, Bool.true_and]⟩
    unfold wordK
    rw [beq_self_eq_true, (wd_c0 h2).1, tS_len]
  · have hn := num_numb (s := tS t) h2
    refine .inr ⟨k_ng, by rw [beq_self_eq_true]; exact hn.1.symm, by rw [k_nw, hn.2.1]; rfl, by rw [k_ns, decide_eq_false hn.2.2], fun ks hks => ?_⟩
    rw [k_nw, Bool.false_and]
    symm
    rw [decide_eq_false_iff_not]
    intro hm
    have := (wd_c0 (hks _ hm))
    have h3 := (num_c0 h2).2.1
    unfold c0 at this
    rw [tS_list] at this
    rw [h3] at this
    exact absurd this.1 (by decide)
theorem end_no {t : Tk} (h : isEnd t = true) : isKey t = false ∧ isSep t = false ∧ ∀ ks, isWord ks t = false := by
  have e := eq_of_beq h
  unfold isKey isSep isWord
  rw [e]
  have h1 : (("end" : Str) == "word") = false := by decide +kernel
  have h2 : (("end" : Str) == "separator") = false := by decide +kernel
  exact ⟨by rw [h1]; rfl, h2, fun ks => by rw [h1]; rfl⟩
theorem sep_no {t : Tk} (h : isSep t = true) : isKey t = false ∧ ∀ ks, isWord ks t = false := by
  have e := eq_of_beq h
  unfold isKey isWord
  rw [e, k_sw]
  exact ⟨rfl, fun ks => rfl⟩
theorem wds {ks : List Str} (h : (ks.all fun k => decide (k.cps.toList ≠ []) && k.cps.toList.all isL) = true) : ∀ k ∈ ks, isWd k := fun k hk => by
  have := List.all_eq_true.mp h k hk
  rw [Bool.and_eq_true] at this
  exact ⟨of_decide_eq_true this.1, fun c hc => List.all_eq_true.mp this.2 c hc⟩
/-- one of these words, in a state that takes just these -/
theorem sim_word {s : Sx} {ks : List Str} {post : Str → Sx} (hk : ∀ k ∈ ks, isWd k) (hf : isFin (some s) = false) (hr : rngS s = none) (h1 : ∀ k ∈ ks, nx s k = some (post k)) (h0 : ∀ k, k ∉ ks → nx s k = none) : Sim s (mTake (isWord ks)) (fun v s' _ => v ∈ ks ∧ s' = post v) := by
  have base := sim_take (s := s) (f := isWord ks) (post := post) (fun t h => (end_no h).2.2 ks) (fun t h => (sep_no h).2 ks) hf hr (fun t hw h => by
    rcases kinds hw with ⟨_, _, _, _, g⟩ | ⟨g1, _, _, _, g⟩
    · rw [g] at h; cases h
    · rw [g ks hk] at h
      unfold stepT
      rw [if_neg (by rw [g1]; decide)]
      exact h1 _ (of_decide_eq_true h)) (fun t hw h => by
    unfold stepT
    rcases kinds hw with ⟨g1, _, _, _, g⟩ | ⟨g1, _, _, _, g⟩
    · rw [if_pos g1]
    · rw [g ks hk] at h
      rw [if_neg (by rw [g1]; decide)]
      exact h0 _ (of_decide_eq_false h))
  intro l b c hw
  have a := base l b c hw
  cases hm : mTake (isWord ks) l b with
  | er p m => rw [hm] at a; exact a
  | ok v n b1 =>
    rw [hm] at a
    obtain ⟨s', q, w⟩ := a
    refine ⟨s', ⟨?_, q⟩, w⟩
    obtain ⟨t, r, rfl, _⟩ := hw.cases
    unfold mTake at hm
    simp only at hm
    split at hm
    · rename_i hft
      cases hm
      unfold isWord at hft
      rw [Bool.and_eq_true] at hft
      exact of_decide_eq_true hft.2
    · cases hm
theorem sim_key {s s' : Sx} (hf : isFin (some s) = false) (hr : rngS s = none) (e : ∀ k, nx s k = if wordK k = true then some s' else none) : Sim s (mTake isKey) (fun _ s2 _ => s2 = s') :=
  sim_weak (sim_take (post := fun _ => s') (fun t h => (end_no h).1) (fun t h => (sep_no h).1) hf hr (fun t hw h => by
    rcases kinds hw with ⟨_, _, g, _⟩ | ⟨g1, _, g, _⟩
    · rw [g] at h; cases h
    · unfold stepT
      rw [if_neg (by rw [g1]; decide), e, ← g, h]; rfl) (fun t hw h => by
    unfold stepT
    rcases kinds hw with ⟨g1, _⟩ | ⟨g1, _, g, _⟩
    · rw [if_pos g1]
    · rw [if_neg (by rw [g1]; decide), e, ← g, h]; rfl)) fun _ _ _ h => h
theorem sim_numS {s s' : Sx} {lo hi : Int} (hf : isFin (some s) = false) (hr : rngS s = some (lo, hi)) (e : ∀ k, nx s k = if numb k = true then some s' else none) : Sim s (mNum lo hi) (fun _ s2 _ => s2 = s') :=
  sim_num hf hr (fun t hw h => by
    rcases kinds hw with ⟨_, g, _⟩ | ⟨g1, g, _⟩
    · rw [g] at h; cases h
    · unfold stepT
      rw [if_neg (by rw [g1]; decide), e, ← g, h]; rfl) (fun t hw h => by
    unfold stepT
    rcases kinds hw with ⟨g1, _⟩ | ⟨g1, g, _⟩
    · rw [if_pos g1]
    · rw [if_neg (by rw [g1]; decide), e, ← g, h]; rfl)
/-- behind a piece: no key may follow -/
def AtEnd (s : Sx) (l : List Tk) : Prop := s = .behind ∨ (s = .more ∧ ∀ t r, l = t :: r → isKey t = false)
theorem more_run (b : Option Nat) (c : Nat) : ∀ r : List Tk, WW r → WW (r.drop (r.takeWhile isKey).length) ∧ auto .more r b c = auto .more (r.drop (r.takeWhile isKey).length) b c ∧ AtEnd .more (r.drop (r.takeWhile isKey).length)
  | [], h => by obtain ⟨t, r, e, _⟩ := h.cases; cases e
  | t :: r, h => by
    rw [List.takeWhile_cons]
    cases hk : isKey t with
    | false =>
      rw [if_neg (by decide)]
      refine ⟨h, rfl, .inr ⟨rfl, fun t' r' e => ?_⟩⟩
      injection e with e1 _
      rw [← e1]; exact hk
    | true =>
      rw [if_pos rfl, List.length_cons, List.drop_succ_cons]
      obtain ⟨t2, r2, e, h2⟩ := h.cases
      injection e with e1 e2
      subst e1; subst e2
      rcases h2 with ⟨he, _⟩ | ⟨he, hwf, hw'⟩
      · rw [(end_no he).1] at hk; cases hk
      · obtain ⟨w, e, p⟩ := more_run b c r hw'
        refine ⟨w, ?_, p⟩
        rw [← e, auto, if_neg (by rw [he]; decide)]
        have hs : stepT .more t = some .more := by
          rcases kinds hwf with ⟨_, _, g, _⟩ | ⟨g1, _, g, _⟩
          · rw [g] at hk; cases hk
          · unfold stepT
            rw [if_neg (by rw [g1]; decide)]
            show (if wordK (tS t) = true then some Sx.more else _) = _
            rw [← g, hk]; rfl
        have hns : isSep t = false := by cases hx : isSep t with | false => rfl | true => rw [(sep_no hx).1] at hk; cases hk
        rw [hs]
        simp only [hns, Bool.false_eq_true, if_false]
        rfl
theorem sim_keys : Sim .keys mKeys (fun _ s l => AtEnd s l) := by
  intro l b c hw
  obtain ⟨t, r, rfl, h | ⟨he, hwf, hw'⟩⟩ := hw.cases
  · obtain ⟨he, rfl⟩ := h
    unfold mKeys
    simp only [(end_no he).1, Bool.false_eq_true, if_false]
    unfold auto
    rw [if_pos he, if_neg (by decide), err_end he]
  · unfold mKeys
    simp only
    cases hk : isKey t with
    | true =>
      simp only [if_true]
      obtain ⟨w, e, p⟩ := more_run b c r hw'
      rw [show 1 + (r.takeWhile isKey).length = (r.takeWhile isKey).length + 1 by omega, List.drop_succ_cons]
      refine ⟨.more, p, w, ?_⟩
      rw [← e, auto, if_neg (by rw [he]; decide)]
      have hs : stepT .keys t = some .more := by
        rcases kinds hwf with ⟨_, _, g, _⟩ | ⟨g1, _, g, _⟩
        · rw [g] at hk; cases hk
        · unfold stepT
          rw [if_neg (by rw [g1]; decide)]
          show (if wordK (tS t) = true then some Sx.more else none) = _
          rw [← g, hk]; rfl
      have hns : isSep t = false := by cases hx : isSep t with | false => rfl | true => rw [(sep_no hx).1] at hk; cases hk
      rw [hs]
      simp only [hns, Bool.false_eq_true, if_false]
      rfl
    | false =>
      simp only [Bool.false_eq_true, if_false]
      rw [auto, if_neg (by rw [he]; decide), err_tok he]
      have hs : stepT .keys t = none := by
        unfold stepT
        rcases kinds hwf with ⟨g1, _⟩ | ⟨g1, _, g, _⟩
        · rw [if_pos g1]
        · rw [if_neg (by rw [g1]; decide)]
          show (if wordK (tS t) = true then some Sx.more else none) = _
          rw [← g, hk]; rfl
      rw [hs]
/-- a reading from a state that is known by its post -/
theorem sim_at {α : Type} {s s' : Sx} {M : PM α} {post : α → Sx → List Tk → Prop} (h : Sim s M post) (e : s' = s) : ∀ l b c, WW l → match M l b with
  | .er p m => auto s' l b c = .er p m
  | .ok v n b1 => ∃ s2, post v s2 (l.drop n) ∧ WW (l.drop n) ∧ auto s' l b c = auto s2 (l.drop n) b1 c := by subst e; exact h
theorem sim_end : Sim .behind (mEnd ()) (fun _ s l => AtEnd s l) := sim_pure fun l _ => .inl rfl
theorem sim_times : Sim .verBy mTimes (fun _ s l => AtEnd s l) :=
  sim_bind (sim_numS rfl rfl fun _ => rfl) fun v s l b c q w => sim_at (sim_bind (sim_word (ks := ["times"]) (post := fun _ => .namedT) (wds (by decide +kernel)) rfl rfl (fun k hk => by simp at hk; subst hk; rfl) fun k hk => by simp at hk; exact if_neg hk)
    fun v s l b c q w => sim_at (sim_bind (sim_key (s' := .numT) rfl rfl fun _ => rfl) fun v s l b c q w => sim_at (sim_bind (sim_numS rfl rfl fun _ => rfl) fun v s l b c q w => sim_at sim_end q l b c w) q l b c w) q.2 l b c w) q l b c w
theorem sim_value : Sim .write mValue (fun _ s l => AtEnd s l) :=
  sim_bind (sim_numS rfl rfl fun _ => rfl) fun v s l b c q w => sim_at (sim_bind (sim_word (ks := ["of"]) (post := fun _ => .namedO) (wds (by decide +kernel)) rfl rfl (fun k hk => by simp at hk; subst hk; rfl) fun k hk => by simp at hk; exact if_neg hk)
    fun v s l b c q w => sim_at (sim_bind (sim_key (s' := .numO) rfl rfl fun _ => rfl) fun v s l b c q w => sim_at (sim_bind (sim_numS rfl rfl fun _ => rfl) fun v s l b c q w => sim_at sim_end q l b c w) q l b c w) q.2 l b c w) q l b c w
end K42
end

-- part EI
section
namespace K42
open PySem L2 DL PySem.NumText
def postC (k : Str) : Sx := if k = "many" then .numM else if k = "did" then .key else .keys
def postP (k : Str) : Sx := if k = "at" then .verAt else if k = "by" then .verBy else if k = "write" then .write else .numH
theorem nx_kind (t : Str) : nx .kind t = if t = "wrote" then some .keys else if t = "among" then some .keys else if t = "many" then some .numM else if t = "did" then some .key else none := rfl
theorem nx_start (t : Str) : nx .start t = if t = "at" then some .verAt else if t = "by" then some .verBy else if t = "write" then some .write else if t = "head" then some .numH else none := rfl
theorem sim_stay {s' : Sx} {l : List Tk} {b : Option Nat} {c : Nat} (q : AtEnd s' l) (w : WW l) : match mEnd () l b with
  | .er p m => auto s' l b c = .er p m
  | .ok v n b1 => ∃ s2, AtEnd s2 (l.drop n) ∧ WW (l.drop n) ∧ auto s' l b c = auto s2 (l.drop n) b1 c := ⟨s', q, w, rfl⟩
theorem sim_commit : Sim .verAt mCommit (fun _ s l => AtEnd s l) := by
  refine sim_bind (sim_numS rfl rfl fun _ => rfl) fun v s l b c q w => sim_at (sim_bind (sim_word (ks := ["wrote", "many", "among", "did"]) (post := postC) (wds (by decide +kernel)) rfl rfl (fun k hk => ?_) fun k hk => ?_) fun v s l b c q w => ?_) q l b c w
  · simp only [List.mem_cons, List.not_mem_nil, or_false] at hk
    rcases hk with rfl | rfl | rfl | rfl <;> decide +kernel
  · simp only [List.mem_cons, List.not_mem_nil, or_false, not_or] at hk
    rw [nx_kind, if_neg hk.1, if_neg hk.2.2.1, if_neg hk.2.1, if_neg hk.2.2.2]
  · obtain ⟨q1, q2⟩ := q
    unfold postC at q2
    by_cases c1 : v = "many"
    · rw [if_pos c1] at q2
      simp only [c1, if_true]
      exact sim_at (sim_bind (sim_numS (s' := .behind) rfl rfl fun _ => rfl) fun v s l b c q w => sim_at sim_end q l b c w) q2 l b c w
    · rw [if_neg c1] at q2
      simp only [c1, if_false]
      by_cases c2 : v = "did"
      · rw [if_pos c2] at q2
        simp only [c2, if_true]
        exact sim_at (sim_bind (sim_key (s' := .behind) rfl rfl fun _ => rfl) fun v s l b c q w => sim_at sim_end q l b c w) q2 l b c w
      · rw [if_neg c2] at q2
        simp only [c2, if_false]
        exact sim_at (sim_bind sim_keys fun v s l b c q w => sim_stay q w) q2 l b c w
theorem sim_piece : Sim .start mPiece (fun _ s l => AtEnd s l) := by
  refine sim_bind (sim_word (ks := ["at", "by", "write", "head"]) (post := postP) (wds (by decide +kernel)) rfl rfl (fun k hk => ?_) fun k hk => ?_) fun v s l b c q w => ?_
  · simp only [List.mem_cons, List.not_mem_nil, or_false] at hk
    rcases hk with rfl | rfl | rfl | rfl <;> decide +kernel
  · simp only [List.mem_cons, List.not_mem_nil, or_false, not_or] at hk
    rw [nx_start, if_neg hk.1, if_neg hk.2.1, if_neg hk.2.2.1, if_neg hk.2.2.2]
  · obtain ⟨q1, q2⟩ := q
    unfold postP at q2
    by_cases c1 : v = "at"
    · rw [if_pos c1] at q2
      simp only [c1, if_true]
      exact sim_at sim_commit q2 l b c w
    · rw [if_neg c1] at q2
      simp only [c1, if_false]
      by_cases c2 : v = "by"
      · rw [if_pos c2] at q2
        simp only [c2, if_true]
        exact sim_at sim_times q2 l b c w
      · rw [if_neg c2] at q2
        simp only [c2, if_false]
        by_cases c3 : v = "write"
        · rw [if_pos c3] at q2
          simp only [c3, if_true]
          exact sim_at sim_value q2 l b c w
        · rw [if_neg c3] at q2
          simp only [c3, if_false]
          exact sim_at (sim_bind (sim_numS (s' := .behind) rfl rfl fun _ => rfl) fun v s l b c q w => sim_at sim_end q l b c w) q2 l b c w
theorem fin_end {s : Sx} {l : List Tk} (h : AtEnd s l) : isFin (some s) = true ∧ rngS s = none := by
  rcases h with rfl | ⟨rfl, _⟩ <;> exact ⟨rfl, rfl⟩
theorem step_sep {s : Sx} {t : Tk} {r : List Tk} (h : AtEnd s (t :: r)) (hw : WfT t) : stepT s t = if isSep t = true then some .start else none := by
  unfold stepT
  rcases kinds hw with ⟨g1, _, _, g, _⟩ | ⟨g1, _, gk, g, _⟩
  · rw [if_pos g1, g]; rfl
  · rw [if_neg (by rw [g1]; decide), g]
    rcases h with rfl | ⟨rfl, hk⟩
    · show (if tS t = ";" then some Sx.start else none) = _
      by_cases e : tS t = ";" <;> simp [e]
    · have hk := hk t r rfl
      rw [gk] at hk
      show (if wordK (tS t) = true then some Sx.more else if tS t = ";" then some Sx.start else none) = _
      rw [hk]
      by_cases e : tS t = ";" <;> simp [e]
theorem loop_auto : ∀ (f : Nat) (l : List Tk) (b : Option Nat) (c : Nat) (s : Sx), AtEnd s l → WW l → l.length ≤ f → match mLoop f l b with
    | .er p m => auto s l b c = .er p m
    | .ok k _ b1 => auto s l b c = .done (c + k) b1
  | 0, l, b, c, s, _, hw, hl => by
    obtain ⟨t, r, rfl, _⟩ := hw.cases
    simp at hl
  | f + 1, l, b, c, s, ha, hw, hl => by
    obtain ⟨t, r, rfl, h | ⟨he, hwf, hw'⟩⟩ := hw.cases
    · obtain ⟨he, rfl⟩ := h
      unfold mLoop
      rw [show headEnd [t] = isEnd t from rfl, he]
      simp only [if_true]
      unfold auto
      rw [if_pos he, if_pos (fin_end ha).1]
      rfl
    · unfold mLoop
      rw [show headEnd (t :: r) = isEnd t from rfl, he]
      simp only [Bool.false_eq_true, if_false]
      have hst := step_sep ha hwf
      unfold PM.bind mTake
      simp only
      cases hs : isSep t with
      | false =>
        simp only [Bool.false_eq_true, if_false]
        rw [auto, if_neg (by rw [he]; decide), hst, hs, err_tok he]
        rfl
      | true =>
        simp only [if_true, List.drop_succ_cons, List.drop_zero]
        have ea : auto s (t :: r) b c = auto .start r b (c + 1) := by
          rw [auto, if_neg (by rw [he]; decide), hst, hs]
          simp only [if_true]
          unfold updB
          rw [(fin_end ha).2]
        rw [ea]
        have hp := sim_piece r b (c + 1) hw'
        cases hm : mPiece r b with
        | er p m => rw [hm] at hp; exact hp
        | ok v n b1 =>
          rw [hm] at hp
          obtain ⟨s2, q, w, e2⟩ := hp
          rw [e2]
          have hlen : (r.drop n).length ≤ f := by rw [List.length_drop]; simp at hl; omega
          have ih := loop_auto f (r.drop n) b1 (c + 1) s2 q w hlen
          simp only
          cases hL : mLoop f (r.drop n) b1 with
          | er p m => rw [hL] at ih; exact ih
          | ok k n2 b2 =>
            rw [hL] at ih
            simp only [PM.pure] at ih ⊢
            rw [ih]
            congr 1
            omega
theorem pieces_auto (l : List Tk) (hw : WW l) (hne : headEnd l = false) : match mPieces l none with
    | .er p m => auto .start l none 1 = .er p m
    | .ok k _ b1 => auto .start l none 1 = .done k b1 := by
  unfold mPieces
  rw [hne]
  simp only [Bool.false_eq_true, if_false]
  have hp := sim_piece l none 1 hw
  unfold PM.bind
  cases hm : mPiece l none with
  | er p m => rw [hm] at hp; exact hp
  | ok v n b1 =>
    rw [hm] at hp
    obtain ⟨s2, q, w, e2⟩ := hp
    have ih := loop_auto l.length (l.drop n) b1 1 s2 q w (by rw [List.length_drop]; omega)
    simp only
    rw [e2]
    cases hL : mLoop l.length (l.drop n) b1 with
    | er p m => rw [hL] at ih; exact ih
    | ok k n2 b2 =>
      rw [hL] at ih
      simp only [PM.pure] at ih ⊢
      rw [ih]
      congr 1
      omega
end K42
end

-- part EJ
section
namespace K42
open PySem L2 DL PySem.NumText
/-! ### from the joined tokens to the scan -/
def kindK (ts : List Str) (TG : List Nat) (k : Nat) : Str := if tk ts k = ";" then "separator" else if k ∈ TG then "glued" else if isL (c0 (tk ts k)) = true then "word" else "number"
def tokOf (ts : List Str) (PL TG : List Nat) (k : Nat) : Tk := ⟨kindK ts TG k, (tk ts k).cps.toList, PL.getD k 0⟩
inductive Fr (ts : List Str) (PL TG : List Nat) (tl : Nat) : Nat → Nat → List Nat → Prop
  | nil : Fr ts PL TG tl ts.length tl []
  | cons {k p c rest} (hk : k < ts.length) (hc : okC ts k c) (hT : k + 1 ∈ TG ↔ tgt ts k c = true) (hp : PL.getD k 0 = p) (h : Fr ts PL TG tl (k + 1) (p + (tk ts k).cps.toList.length + c.length) rest) : Fr ts PL TG tl k p ((tk ts k).cps.toList ++ (c ++ rest))
theorem jn_more {pre : List Nat} {ts : List Str} {k : Nat} {text pl tg : List Nat} {cs : List (List Nat)} (h : Jn pre ts k text pl tg cs) : (∃ r, text = pre ++ r) ∧ pl.length = k ∧ ∀ j ∈ tg, 1 ≤ j ∧ j ≤ k := by
  induction h with
  | nil => exact ⟨⟨[], by simp⟩, rfl, fun j hj => nomatch hj⟩
  | @snoc k text pl tg cs c h hk hc ih =>
    obtain ⟨⟨r, e⟩, h2, h3⟩ := ih
    refine ⟨⟨r ++ (tk ts k).cps.toList ++ c, by rw [e]; simp⟩, by simp [h2], fun j hj => ?_⟩
    rcases List.mem_append.mp hj with hj | hj
    · have := h3 j hj; omega
    · split at hj
      · simp at hj; omega
      · cases hj
theorem jn_fr {pre : List Nat} {ts : List Str} {k : Nat} {text pl tg : List Nat} {cs : List (List Nat)} (hJ : Jn pre ts k text pl tg cs) : ∀ {PL TG : List Nat} {tl : Nat} {rest : List Nat}, PL.take k = pl → (∀ j, j ≤ k → (j ∈ TG ↔ j ∈ tg)) → Fr ts PL TG tl k text.length rest →
    Fr ts PL TG tl 0 pre.length (text.drop pre.length ++ rest) := by
  induction hJ with
  | nil =>
    intro PL TG tl rest _ _ h
    rw [List.drop_eq_nil_of_le (Nat.le_refl _)]
    exact h
  | @snoc k text pl tg cs c h hk hc ih =>
    intro PL TG tl rest hp hT hF
    obtain ⟨⟨r, er⟩, hpl, htg⟩ := jn_more h
    have hlen : k < PL.length := by
      have := congrArg List.length hp
      rw [List.length_take, List.length_append, List.length_singleton] at this
      omega
    have h1 : PL.take k = pl := by
      have := congrArg (List.take k) hp
      rw [List.take_take, Nat.min_eq_left (by omega), List.take_left' hpl] at this
      exact this
    have h2 : PL.getD k 0 = text.length := by
      have : (PL.take (k + 1))[k]? = (pl ++ [text.length])[k]? := by rw [hp]
      rw [List.getElem?_take_of_lt (by omega), List.getElem?_append_right (by omega), hpl, Nat.sub_self] at this
      rw [List.getD_eq_getElem?_getD, this]
      rfl
    have ed : (text ++ (tk ts k).cps.toList ++ c).drop pre.length ++ rest = text.drop pre.length ++ ((tk ts k).cps.toList ++ (c ++ rest)) := by
      rw [er, List.append_assoc, List.append_assoc, List.drop_left' rfl, List.drop_left' rfl]
      simp
    rw [ed]
    refine ih h1 (fun j hj => ?_) (.cons hk hc ?_ h2 ?_)
    · rw [hT j (by omega)]
      constructor
      · intro hm
        rcases List.mem_append.mp hm with hm | hm
        · exact hm
        · split at hm
          · simp at hm; omega
          · cases hm
      · intro hm; exact List.mem_append_left _ hm
    · rw [hT (k + 1) (Nat.le_refl _)]
      constructor
      · intro hm
        rcases List.mem_append.mp hm with hm | hm
        · have := htg _ hm; omega
        · split at hm
          · rename_i hh; exact hh
          · cases hm
      · intro hh
        rw [if_pos hh]
        exact List.mem_append_right _ (by simp)
    · rw [List.length_append, List.length_append] at hF
      exact hF
theorem run_all {p : Nat → Bool} : ∀ {t l : List Nat}, (∀ c ∈ t, p c = true) → (∀ c r, l = c :: r → p c = false) → run p (t ++ l) = t.length
  | [], [], _, _ => rfl
  | [], c :: r, _, h => by
    show run p (c :: r) = 0
    unfold run
    rw [h c r rfl]; rfl
  | a :: t, l, h1, h2 => by
    show run p (a :: (t ++ l)) = _
    unfold run
    rw [if_pos (h1 a (by simp)), run_all (fun c hc => h1 c (by simp [hc])) h2]
    rfl
theorem len_word {t l : List Nat} (h : t ≠ []) (h1 : ∀ c ∈ t, isL c = true) (h2 : ∀ c r, l = c :: r → isL c = false) : tokLen (t ++ l) = t.length := by
  cases t with
  | nil => exact absurd rfl h
  | cons a t =>
    have ha := h1 a (by simp)
    have h59 : a ≠ 59 := by intro e; subst e; exact absurd ha (by decide)
    show tokLen (a :: (t ++ l)) = _
    rw [tok_cons, if_neg h59, if_pos ha]
    exact run_all (t := a :: t) h1 h2
theorem len_num {t l : List Nat} (h : NumT t) (h2 : ∀ c r, l = c :: r → isD c = false) : tokLen (t ++ l) = t.length := by
  obtain ⟨neg, ds, e, h1, hne, _⟩ := h
  have hD : ∀ c ∈ ds, isD c = true := fun c hc => by have := h1 c hc; simp [isD]; omega
  cases ds with
  | nil => exact absurd rfl hne
  | cons d ds =>
    have hd := h1 d (by simp)
    cases neg with
    | true =>
      rw [if_pos rfl] at e
      subst e
      show tokLen (45 :: (d :: ds ++ l)) = _
      rw [tok_cons, if_neg (by decide), if_neg (by decide), if_pos rfl, run_all hD h2, if_neg (by simp)]
      simp
    | false =>
      rw [if_neg (by decide)] at e
      have e : t = d :: ds := e
      subst e
      show tokLen (d :: (ds ++ l)) = _
      rw [tok_cons, if_neg (by omega), if_neg (by simp [isL]; omega), if_neg (by omega)]
      exact run_all (t := d :: ds) hD h2
theorem last_of {t : List Nat} (h : t ≠ []) {p : Nat → Bool} (h1 : ∀ c ∈ t, p c = true) : p (t.getLast h) = true := h1 _ (List.getLast_mem h)
theorem sep_tok {t : Str} (h : t = ";") : t.cps.toList = [59] := by subst h; decide +kernel
theorem c0_59 {t : Str} (h : okTok t) : c0 t = 59 ↔ t = ";" := by
  constructor
  · intro hc
    rcases h.2 with h | rfl | rfl | h | h
    · exact h
    · exact absurd hc (by decide +kernel)
    · exact absurd hc (by decide +kernel)
    · have := (wd_c0 h).1; rw [hc] at this; exact absurd this (by decide)
    · have := (num_c0 h).1
      unfold c0 at hc
      rw [hc] at this
      rcases this with h | h
      · exact absurd h (by decide)
      · exact absurd h (by decide)
  · intro e; subst e; decide +kernel
def Bok (ts : List Str) (TG : List Nat) (k : Nat) (b : Bool) : Prop := k < ts.length → isOdd (tk ts k) = false → tk ts k ≠ ";" → (b = true ↔ k ∈ TG)
theorem not_odd {t : Str} (h : isOdd t = false) : t ≠ "-" ∧ t ≠ "=" := by
  unfold isOdd at h
  rw [Bool.or_eq_false_iff] at h
  exact ⟨of_decide_eq_false h.1, of_decide_eq_false h.2⟩
theorem fr_head {ts : List Str} {PL TG : List Nat} {tl k p : Nat} {rest : List Nat} (h : Fr ts PL TG tl k p rest) (ho : ∀ t ∈ ts, okTok t) : ∀ c r, rest = c :: r → k < ts.length ∧ c = c0 (tk ts k) := by
  cases h with
  | nil => intro c r e; cases e
  | cons hk hc hT hp h =>
    intro c r e
    obtain ⟨l, el⟩ := tok_ne (tk_ok ho k)
    rw [el] at e
    injection e with e1 _
    exact ⟨hk, e1.symm⟩
theorem blank_no : isB 32 = true ∧ isB 10 = true ∧ isL 32 = false ∧ isL 10 = false ∧ isD 32 = false ∧ isD 10 = false := by decide
theorem scan_of {ts : List Str} {PL TG : List Nat} {tl : Nat} (ho : ∀ t ∈ ts, okTok t) {k p : Nat} {rest : List Nat} (h : Fr ts PL TG tl k p rest) : ∀ b, Bok ts TG k b → ∃ tks r, Scn b p rest tks r ∧
    ((∃ q, k ≤ q ∧ q < ts.length ∧ isOdd (tk ts q) = true ∧ (∀ j, k ≤ j → j < q → isOdd (tk ts j) = false) ∧ r = some (PL.getD q 0)) ∨
     ((∀ j, k ≤ j → j < ts.length → isOdd (tk ts j) = false) ∧ r = none ∧ tks = (List.range' k (ts.length - k)).map (tokOf ts PL TG) ++ [⟨"end", [], tl⟩])) := by
  induction h with
  | nil =>
    intro b _
    refine ⟨_, _, .nil, .inr ⟨fun j h1 h2 => by omega, rfl, ?_⟩⟩
    rw [Nat.sub_self]; rfl
  | @cons k p c rest hk hc hT hp h ih =>
    intro b hb
    have htok := tk_ok ho k
    obtain ⟨l, el⟩ := tok_ne htok
    have hhead := fr_head h ho
    cases hodd : isOdd (tk ts k) with
    | true =>
      have hcb : c = [32] ∨ c = [10] ∨ tk ts k = "=" := by
        unfold isOdd at hodd
        rw [Bool.or_eq_true] at hodd
        rcases hc with ⟨_, _, hne⟩ | h | h
        · rcases hodd with h | h
          · exact absurd (of_decide_eq_true h) hne
          · exact .inr (.inr (of_decide_eq_true h))
        · exact .inl h
        · exact .inr (.inl h)
      refine ⟨[], some p, ?_, .inl ⟨k, Nat.le_refl _, hk, hodd, fun j h1 h2 => by omega, by rw [hp]⟩⟩
      by_cases he : tk ts k = "="
      · have : (tk ts k).cps.toList = [61] := by rw [he]; decide +kernel
        rw [this]
        exact .bad (by decide) (by rw [tok_cons, if_neg (by decide), if_neg (by decide), if_neg (by decide)]; unfold run; rw [if_neg (by decide)])
      · have hd : tk ts k = "-" := by
          unfold isOdd at hodd
          rw [decide_eq_false he, Bool.or_false] at hodd
          exact of_decide_eq_true hodd
        have : (tk ts k).cps.toList = [45] := by rw [hd]; decide +kernel
        rw [this]
        have hr : run isD (c ++ rest) = 0 := by
          rcases hcb with rfl | rfl | h
          · show run isD (32 :: rest) = 0
            unfold run; rw [if_neg (by decide)]
          · show run isD (10 :: rest) = 0
            unfold run; rw [if_neg (by decide)]
          · exact absurd h he
        refine Scn.bad (c := 45) (l := c ++ rest) (by decide) ?_
        rw [tok_cons, if_neg (by decide), if_neg (by decide), if_pos rfl, if_pos hr]
    | false =>
      obtain ⟨nd, ne⟩ := not_odd hodd
      -- what stands behind the token
      have hnext : ∀ x r, c ++ rest = x :: r → (tk ts k = ";" ∨ (isWd (tk ts k) → isL x = false) ∧ (NumT (tk ts k).cps.toList → isD x = false)) := by
        intro x r e
        rcases hc with ⟨rfl, ha, _⟩ | rfl | rfl
        · obtain ⟨hk1, hx⟩ := hhead x r e
          have hbeh : beh ts k = tk ts (k + 1) := rfl
          rw [hbeh] at ha
          subst hx
          unfold apart at ha
          rw [Bool.or_eq_false_iff] at ha
          refine .inr ⟨fun hw => ?_, fun hn => ?_⟩
          · have := (wd_c0 hw).1
            rw [this, Bool.true_and] at ha
            exact ha.1
          · have h2 := (num_c0 hn).2.1
            have : isL (c0 (tk ts k)) = false := h2
            rw [this, Bool.not_false, Bool.true_and] at ha
            exact ha.2
        · injection e with e1 _; subst e1; exact .inr ⟨fun _ => rfl, fun _ => rfl⟩
        · injection e with e1 _; subst e1; exact .inr ⟨fun _ => rfl, fun _ => rfl⟩
      have hlen : tokLen ((tk ts k).cps.toList ++ (c ++ rest)) = (tk ts k).cps.toList.length := by
        rcases htok.2 with h | h | h | h | h
        · rw [sep_tok h]
          show tokLen (59 :: (c ++ rest)) = 1
          rw [tok_cons, if_pos rfl]
        · exact absurd h nd
        · exact absurd h ne
        · exact len_word h.1 h.2 fun x r e => (hnext x r e).elim (fun hs => absurd hs (wd_c0 h).2.2.2) fun z => z.1 h
        · exact len_num h fun x r e => (hnext x r e).elim (fun hs => absurd hs (num_numb h).2.2) fun z => z.2 h
      have hne : (tk ts k).cps.toList ≠ [] := by rw [el]; simp
      have halnum : alnum ((tk ts k).cps.toList.getLast hne) = decide (tk ts k ≠ ";") := by
        rcases htok.2 with h | h | h | h | h
        · rw [decide_eq_false (by simpa using h)]
          have := sep_tok h
          simp only [this]
          show alnum 59 = false
          decide
        · exact absurd h nd
        · exact absurd h ne
        · rw [decide_eq_true (wd_c0 h).2.2.2]
          exact last_of hne fun x hx => by unfold alnum; rw [h.2 x hx]; rfl
        · rw [decide_eq_true (num_numb h).2.2]
          unfold alnum
          have hl : isD ((tk ts k).cps.toList.getLast hne) = true := by
            obtain ⟨neg, ds, e, h1, h2, _⟩ := h
            have : (tk ts k).cps.toList.getLast hne = ds.getLast h2 := by
              simp only [e]
              exact List.getLast_append_of_ne_nil _ h2
            rw [this]
            have := h1 _ (List.getLast_mem h2)
            simp [isD]; omega
          rw [hl, Bool.or_true]
      have hblank : isB (c0 (tk ts k)) = false := by
        rcases htok.2 with h | h | h | h | h
        · rw [h]; decide +kernel
        · exact absurd h nd
        · exact absurd h ne
        · have := (wd_c0 h).1; simp [isL] at this; simp [isB]; omega
        · have := (num_c0 h).1
          have h2 : c0 (tk ts k) = 45 ∨ isD (c0 (tk ts k)) = true := this
          simp [isD] at h2; simp [isB]; omega
      -- the rest is scanned
      obtain ⟨tks, r, hs, hr⟩ : ∃ tks r, Scn (alnum ((tk ts k).cps.toList.getLast hne)) (p + (tk ts k).cps.toList.length) (c ++ rest) tks r ∧ ((∃ q, k + 1 ≤ q ∧ q < ts.length ∧ isOdd (tk ts q) = true ∧ (∀ j, k + 1 ≤ j → j < q → isOdd (tk ts j) = false) ∧ r = some (PL.getD q 0)) ∨
          ((∀ j, k + 1 ≤ j → j < ts.length → isOdd (tk ts j) = false) ∧ r = none ∧ tks = (List.range' (k + 1) (ts.length - (k + 1))).map (tokOf ts PL TG) ++ [⟨"end", [], tl⟩])) := by
        have blk : ∀ x, c = [x] → isB x = true → tgt ts k c = false → ∃ tks r, Scn (alnum ((tk ts k).cps.toList.getLast hne)) (p + (tk ts k).cps.toList.length) (c ++ rest) tks r ∧ ((∃ q, k + 1 ≤ q ∧ q < ts.length ∧ isOdd (tk ts q) = true ∧ (∀ j, k + 1 ≤ j → j < q → isOdd (tk ts j) = false) ∧ r = some (PL.getD q 0)) ∨
            ((∀ j, k + 1 ≤ j → j < ts.length → isOdd (tk ts j) = false) ∧ r = none ∧ tks = (List.range' (k + 1) (ts.length - (k + 1))).map (tokOf ts PL TG) ++ [⟨"end", [], tl⟩])) := by
          intro x hx hbx htg
          subst hx
          obtain ⟨tks, r, hs, hr⟩ := ih false (fun _ _ _ => by rw [hT, htg])
          exact ⟨tks, r, .blank hbx hs, hr⟩
        rcases hc with ⟨rfl, _, _⟩ | rfl | rfl
        · refine ih _ fun hk1 h1 h2 => ?_
          rw [halnum, hT]
          unfold tgt
          have hbeh : beh ts k = tk ts (k + 1) := rfl
          rw [hbeh]
          obtain ⟨n1, n2⟩ := not_odd h1
          simp [h2, n1, n2]
        · exact blk 32 rfl (by decide) (by unfold tgt; simp)
        · exact blk 10 rfl (by decide) (by unfold tgt; simp)
      refine ⟨tokOf ts PL TG k :: tks, r, ?_, ?_⟩
      · have ek : kindOf b (c0 (tk ts k)) = kindK ts TG k := by
          unfold kindOf kindK
          by_cases h59 : tk ts k = ";"
          · rw [if_pos ((c0_59 htok).mpr h59), if_pos h59]
          · rw [if_neg (fun e => h59 ((c0_59 htok).mp e)), if_neg h59]
            have := hb hk hodd h59
            by_cases hm : k ∈ TG
            · rw [if_pos (this.mpr hm), if_pos hm]
            · rw [if_neg (fun e => hm (this.mp e)), if_neg hm]
        have := Scn.tok (b := b) (p := p) (c := c0 (tk ts k)) (t := l) (l := c ++ rest) (ts := tks) (r := r) hblank (by rw [← el]; exact hlen) (by
          have e2 : (c0 (tk ts k) :: l) = (tk ts k).cps.toList := el.symm
          simp only [e2]
          exact hs)
        rw [ek] at this
        have e3 : tokOf ts PL TG k = ⟨kindK ts TG k, c0 (tk ts k) :: l, p⟩ := by unfold tokOf; rw [el, hp]
        rw [e3, el]
        exact this
      · rcases hr with ⟨q, h1, h2, h3, h4, h5⟩ | ⟨h1, h2, h3⟩
        · refine .inl ⟨q, by omega, h2, h3, fun j j1 j2 => ?_, h5⟩
          by_cases hj : j = k
          · subst hj; exact hodd
          · exact h4 j (by omega) j2
        · refine .inr ⟨fun j j1 j2 => ?_, h2, ?_⟩
          · by_cases hj : j = k
            · subst hj; exact hodd
            · exact h1 j (by omega) j2
          · rw [h3, show ts.length - k = (ts.length - (k + 1)) + 1 by omega, List.range'_succ]
            rfl
end K42
end

-- part EK
section
namespace K42
open PySem L2 DL PySem.NumText
/-! ### the states and the ranges -/
def InvS : Sx → Str → Nat → Prop
  | .start, _, p => p = 0
  | .verAt, f, p => f = "at" ∧ p = 1
  | .kind, f, p => f = "at" ∧ p = 2
  | .keys, f, p => f = "at" ∧ p = 3
  | .key, f, p => f = "at" ∧ p = 3
  | .numM, f, p => f = "at" ∧ p = 3
  | .more, f, p => f = "at" ∧ 1 ≤ p
  | .behind, _, p => 1 ≤ p
  | .verBy, f, p => f = "by" ∧ p = 1
  | .times, f, p => f = "by" ∧ p = 2
  | .namedT, f, p => f = "by" ∧ p = 3
  | .numT, f, p => f = "by" ∧ p = 4
  | .write, f, p => f = "write" ∧ p = 1
  | .of, f, p => f = "write" ∧ p = 2
  | .namedO, f, p => f = "write" ∧ p = 3
  | .numO, f, p => f = "write" ∧ p = 4
  | .numH, f, p => f = "head" ∧ p = 1
theorem semi_none (s : Sx) (h1 : s ≠ .more) (h2 : s ≠ .behind) : nx s ";" = none := by cases s <;> first | exact absurd rfl h1 | exact absurd rfl h2 | decide +kernel
theorem nx_semi {s s' : Sx} (h : nx s ";" = some s') : s' = .start := by
  have hn := sep_numb
  cases s
  case more =>
    have h : (if wordK ";" = true then some Sx.more else if (";" : Str) = ";" then some Sx.start else none) = some s' := h
    rw [hn.2, if_neg (by decide), if_pos rfl] at h
    cases h; rfl
  case behind =>
    have h : (if (";" : Str) = ";" then some Sx.start else none) = some s' := h
    rw [if_pos rfl] at h
    cases h; rfl
  all_goals (rw [semi_none _ (by decide) (by decide)] at h; cases h)
theorem of_ite {c : Prop} [Decidable c] {a b : Sx} (h : (if c then some a else none) = some b) : c ∧ a = b := by
  split at h
  · cases h; exact ⟨by assumption, rfl⟩
  · cases h
theorem inv_step {s s' : Sx} {f t : Str} {p : Nat} (hi : InvS s f p) (hs : s = .start → f = t) (ht : t ≠ ";") (h : nx s t = some s') : InvS s' f (p + 1) := by
  cases s
  case start =>
    have hp : p = 0 := hi
    have hf := hs rfl
    subst hp; subst hf
    rw [nx_start] at h
    split at h
    · cases h; exact ⟨by assumption, rfl⟩
    · split at h
      · cases h; exact ⟨by assumption, rfl⟩
      · split at h
        · cases h; exact ⟨by assumption, rfl⟩
        · split at h
          · cases h; exact ⟨by assumption, rfl⟩
          · cases h
  case kind =>
    obtain ⟨hf, hp⟩ := hi
    subst hp
    rw [nx_kind] at h
    split at h
    · cases h; exact ⟨hf, rfl⟩
    · split at h
      · cases h; exact ⟨hf, rfl⟩
      · split at h
        · cases h; exact ⟨hf, rfl⟩
        · split at h
          · cases h; exact ⟨hf, rfl⟩
          · cases h
  case more =>
    have h : (if wordK t = true then some Sx.more else if t = ";" then some Sx.start else none) = some s' := h
    rw [if_neg ht] at h
    obtain ⟨_, rfl⟩ := of_ite h
    exact ⟨hi.1, by omega⟩
  case behind =>
    have h : (if t = ";" then some Sx.start else none) = some s' := h
    rw [if_neg ht] at h; cases h
  case verAt =>
    obtain ⟨hf, hp⟩ := hi
    obtain ⟨_, rfl⟩ := of_ite h
    exact ⟨hf, by omega⟩
  case verBy =>
    obtain ⟨hf, hp⟩ := hi
    obtain ⟨_, rfl⟩ := of_ite h
    exact ⟨hf, by omega⟩
  case write =>
    obtain ⟨hf, hp⟩ := hi
    obtain ⟨_, rfl⟩ := of_ite h
    exact ⟨hf, by omega⟩
  case numH => obtain ⟨_, rfl⟩ := of_ite h; show 1 ≤ p + 1; omega
  case numM => obtain ⟨_, rfl⟩ := of_ite h; show 1 ≤ p + 1; omega
  case numT => obtain ⟨_, rfl⟩ := of_ite h; show 1 ≤ p + 1; omega
  case numO => obtain ⟨_, rfl⟩ := of_ite h; show 1 ≤ p + 1; omega
  case key => obtain ⟨_, rfl⟩ := of_ite h; show 1 ≤ p + 1; omega
  case keys =>
    obtain ⟨hf, hp⟩ := hi
    obtain ⟨_, rfl⟩ := of_ite h
    exact ⟨hf, by omega⟩
  case times =>
    obtain ⟨hf, hp⟩ := hi
    obtain ⟨_, rfl⟩ := of_ite h
    exact ⟨hf, by omega⟩
  case of =>
    obtain ⟨hf, hp⟩ := hi
    obtain ⟨_, rfl⟩ := of_ite h
    exact ⟨hf, by omega⟩
  case namedT =>
    obtain ⟨hf, hp⟩ := hi
    obtain ⟨_, rfl⟩ := of_ite h
    exact ⟨hf, by omega⟩
  case namedO =>
    obtain ⟨hf, hp⟩ := hi
    obtain ⟨_, rfl⟩ := of_ite h
    exact ⟨hf, by omega⟩
theorem inv_rng {s : Sx} {f : Str} {p : Nat} {r : Int × Int} (hi : InvS s f p) (hr : rngS s = some r) : rngOf f p = r := by
  have e1 : ¬ (("at" : Str) = "write") := by decide +kernel
  have e2 : ¬ (("by" : Str) = "write") := by decide +kernel
  have e3 : ¬ (("by" : Str) = "at") := by decide +kernel
  have e4 : ¬ (("head" : Str) = "write") := by decide +kernel
  have e5 : ¬ (("head" : Str) = "at") := by decide +kernel
  have e6 : ¬ (("write" : Str) = "at") := by decide +kernel
  unfold rngOf
  cases s
  case verAt => obtain ⟨rfl, rfl⟩ := hi; cases hr; rw [if_neg (fun h => e1 h.1), if_pos (.inl rfl)]
  case verBy => obtain ⟨rfl, rfl⟩ := hi; cases hr; rw [if_neg (fun h => e2 h.1), if_neg (fun h => h.elim e3 fun h => e2 h.1)]
  case write => obtain ⟨rfl, rfl⟩ := hi; cases hr; rw [if_neg (fun h => absurd h.2 (by decide)), if_pos (.inr ⟨rfl, rfl⟩)]
  case numH => obtain ⟨rfl, rfl⟩ := hi; cases hr; rw [if_neg (fun h => e4 h.1), if_neg (fun h => h.elim e5 fun h => e4 h.1)]
  case numM => obtain ⟨rfl, rfl⟩ := hi; cases hr; rw [if_neg (fun h => e1 h.1), if_pos (.inl rfl)]
  case numT => obtain ⟨rfl, rfl⟩ := hi; cases hr; rw [if_neg (fun h => e2 h.1), if_neg (fun h => h.elim e3 fun h => e2 h.1)]
  case numO => obtain ⟨rfl, rfl⟩ := hi; cases hr; rw [if_pos ⟨rfl, rfl⟩]
  all_goals cases hr
theorem nx_sgnd {s s' : Sx} {t : Str} (ht : plainTok t) (h : nx s t = some s') : (rngS s).isSome = sgnd t := by
  have hw : isWd t → sgnd t = false ∧ numb t = false := fun hw => by
    obtain ⟨h1, h2, h3, _⟩ := wd_c0 hw
    refine ⟨?_, wd_numb hw⟩
    unfold sgnd
    rw [h2, decide_eq_false h3]; rfl
  have hn : NumT t.cps.toList → sgnd t = true ∧ wordK t = false ∧ isL (c0 t) = false := fun hn => by
    obtain ⟨h1, h2, _⟩ := num_c0 hn
    refine ⟨?_, (num_numb hn).2.1, h2⟩
    unfold sgnd
    have h1 : c0 t = 45 ∨ isD (c0 t) = true := h1
    rcases h1 with h | h
    · rw [decide_eq_true h]; rfl
    · rw [h, Bool.or_true]
  rcases ht.2 with rfl | hwd | hnum
  · have : sgnd ";" = false := by decide +kernel
    rw [this]
    cases s <;> first | rfl | (rw [semi_none _ (by decide) (by decide)] at h; cases h)
  · obtain ⟨h1, h2⟩ := hw hwd
    rw [h1]
    cases s <;> first | rfl | exact absurd (of_ite h).1 (by rw [h2]; decide)
  · obtain ⟨h1, h2, h3⟩ := hn hnum
    have hne : ∀ k : Str, isL (c0 k) = true → t ≠ k := fun k hk e => by rw [e, hk] at h3; cases h3
    rw [h1]
    cases s
    case start =>
      rw [nx_start, if_neg (hne "at" (by decide +kernel)), if_neg (hne "by" (by decide +kernel)), if_neg (hne "write" (by decide +kernel)), if_neg (hne "head" (by decide +kernel))] at h
      cases h
    case kind =>
      rw [nx_kind, if_neg (hne "wrote" (by decide +kernel)), if_neg (hne "among" (by decide +kernel)), if_neg (hne "many" (by decide +kernel)), if_neg (hne "did" (by decide +kernel))] at h
      cases h
    case times => exact absurd (of_ite h).1 (hne "times" (by decide +kernel))
    case of => exact absurd (of_ite h).1 (hne "of" (by decide +kernel))
    case behind => exact absurd (of_ite h).1 (num_numb hnum).2.2
    case more =>
      have h : (if wordK t = true then some Sx.more else if t = ";" then some Sx.start else none) = some s' := h
      rw [h2, if_neg (by decide), if_neg (num_numb hnum).2.2] at h
      cases h
    case keys => exact absurd (of_ite h).1 (by rw [h2]; decide)
    case key => exact absurd (of_ite h).1 (by rw [h2]; decide)
    case namedT => exact absurd (of_ite h).1 (by rw [h2]; decide)
    case namedO => exact absurd (of_ite h).1 (by rw [h2]; decide)
    all_goals rfl
theorem run_inv {ts : List Str} : ∀ {k : Nat} {s : Sx}, k ≤ ts.length → runS ts k = some s → InvS s (tk ts (startOf ts k)) (k - startOf ts k)
  | 0, s, _, h => by
    have : s = .start := by cases h; rfl
    subst this
    rfl
  | k + 1, s, hk, h => by
    have h : (match runS ts k with | some s => nx s (tk ts k) | none => none) = some s := h
    cases hs : runS ts k with
    | none => rw [hs] at h; cases h
    | some s0 =>
      rw [hs] at h
      have h : nx s0 (tk ts k) = some s := h
      have ih := run_inv (k := k) (by omega) hs
      have hle := start_le ts k
      have eg : ts.getD k ⟨#[]⟩ = tk ts k := by
        unfold tk
        rw [List.getD_eq_getElem?_getD, List.getD_eq_getElem?_getD, List.getElem?_eq_getElem (by omega)]; rfl
      have est : startOf ts (k + 1) = if ts.getD k ⟨#[]⟩ ≠ ";" then startOf ts k else k + 1 := rfl
      rw [eg] at est
      by_cases hc : tk ts k = ";"
      · rw [if_neg (by simpa using hc)] at est
        rw [hc] at h
        rw [nx_semi h, est]
        show k + 1 - (k + 1) = 0
        omega
      · rw [if_pos hc] at est
        rw [est, show k + 1 - startOf ts k = k - startOf ts k + 1 by omega]
        refine inv_step ih (fun e => ?_) hc h
        subst e
        have : k - startOf ts k = 0 := ih
        rw [show startOf ts k = k by omega]
end K42
end

-- part EL
section
namespace K42
open PySem L2 DL PySem.NumText
theorem str_back (s : Str) : (⟨s.cps.toList.toArray⟩ : Str) = s := by
  obtain ⟨c⟩ := s
  rfl
section
variable {ts : List Str} {PL TG : List Nat} {tl : Nat}
theorem tkP (hp : ∀ t ∈ ts, plainTok t) {k : Nat} (hk : k < ts.length) : plainTok (tk ts k) := by
  unfold tk
  rw [List.getD_eq_getElem?_getD, List.getElem?_eq_getElem hk]
  exact hp _ (List.getElem_mem _)
theorem tok_tS (k : Nat) : tS (tokOf ts PL TG k) = tk ts k := str_back _
theorem tok_end (k : Nat) : isEnd (tokOf ts PL TG k) = false := by
  unfold isEnd tokOf kindK
  simp only
  split
  · decide +kernel
  · split
    · decide +kernel
    · split <;> decide +kernel
theorem tok_sep (k : Nat) : isSep (tokOf ts PL TG k) = decide (tk ts k = ";") := by
  unfold isSep tokOf kindK
  simp only
  split
  · rename_i h; rw [decide_eq_true h]; decide +kernel
  · rename_i h
    rw [decide_eq_false h]
    split
    · decide +kernel
    · split <;> decide +kernel
theorem tok_gl (hT : ∀ k ∈ TG, tk ts k ≠ ";") (k : Nat) : isGl (tokOf ts PL TG k) = decide (k ∈ TG) := by
  unfold isGl tokOf kindK
  simp only
  split
  · rename_i h
    rw [decide_eq_false (fun hm => hT k hm h)]; decide +kernel
  · split
    · rename_i h; rw [decide_eq_true h]; decide +kernel
    · rename_i h
      rw [decide_eq_false h]
      split <;> decide +kernel
theorem tok_wf (hp : ∀ t ∈ ts, plainTok t) {k : Nat} (hk : k < ts.length) : WfT (tokOf ts PL TG k) := by
  have h := tkP hp hk
  have e := tok_tS (ts := ts) (PL := PL) (TG := TG) k
  unfold WfT
  rw [e]
  unfold tokOf kindK
  simp only
  split
  · rename_i h1; exact .inr (.inl ⟨rfl, h1⟩)
  · rename_i h1
    split
    · exact .inl rfl
    · rcases h.2 with h2 | h2 | h2
      · exact absurd h2 h1
      · rw [if_pos (wd_c0 h2).1]
        exact .inr (.inr (.inl ⟨rfl, h2⟩))
      · have := (num_c0 h2).2.1
        have h3 : isL (c0 (tk ts k)) = false := this
        rw [if_neg (by rw [h3]; decide)]
        exact .inr (.inr (.inr ⟨rfl, h2⟩))
theorem tok_step (hT : ∀ k ∈ TG, tk ts k ≠ ";") (s : Sx) (k : Nat) : stepT s (tokOf ts PL TG k) = if k ∈ TG then none else nx s (tk ts k) := by
  unfold stepT
  rw [tok_gl hT, tok_tS]
  by_cases h : k ∈ TG <;> simp [h]
def allT (ts : List Str) (PL TG : List Nat) (tl : Nat) : List Tk := (List.range ts.length).map (tokOf ts PL TG) ++ [⟨"end", [], tl⟩]
theorem all_drop {k : Nat} (hk : k < ts.length) : (allT ts PL TG tl).drop k = tokOf ts PL TG k :: (allT ts PL TG tl).drop (k + 1) := by
  unfold allT
  have hl : k < ((List.range ts.length).map (tokOf ts PL TG) ++ [(⟨"end", [], tl⟩ : Tk)]).length := by rw [List.length_append, List.length_map, List.length_range]; omega
  rw [List.drop_eq_getElem_cons hl]
  congr 1
  rw [List.getElem_append_left (by rw [List.length_map, List.length_range]; exact hk), List.getElem_map, List.getElem_range]
theorem end_is : isEnd (⟨"end", [], tl⟩ : Tk) = true := beq_self_eq_true _
theorem all_last : (allT ts PL TG tl).drop ts.length = [⟨"end", [], tl⟩] := by
  unfold allT
  rw [List.drop_left' (by rw [List.length_map, List.length_range])]
def bF (ts : List Str) (PL : List Nat) (k : Nat) : Option Nat := ((List.range k).find? (outR ts)).map fun j => PL.getD j 0
def cF (ts : List Str) (k : Nat) : Nat := 1 + ((ts.take k).filter (fun t => decide (t = (";" : Str)))).length
theorem bF_next {k : Nat} : bF ts PL (k + 1) = (match bF ts PL k with
    | some b => some b
    | none => if outR ts k = true then some (PL.getD k 0) else none) := by
  unfold bF
  rw [List.range_succ, List.find?_append]
  cases h : (List.range k).find? (outR ts) with
  | some j => rfl
  | none =>
    simp only [Option.map_none, Option.none_or, List.find?_cons, List.find?_nil]
    cases outR ts k <;> rfl
theorem cF_next {k : Nat} (hk : k < ts.length) : cF ts (k + 1) = if tk ts k = ";" then cF ts k + 1 else cF ts k := by
  unfold cF
  have e : ts[k] = tk ts k := by unfold tk; rw [List.getD_eq_getElem?_getD, List.getElem?_eq_getElem hk]; rfl
  rw [List.take_add_one, List.getElem?_eq_getElem hk, Option.toList_some, e, List.filter_append, List.length_append]
  by_cases h : tk ts k = ";"
  · rw [if_pos h, List.filter_cons_of_pos (by simpa using h)]
    show 1 + (_ + 1) = _
    omega
  · rw [if_neg h, List.filter_cons_of_neg (by simpa using h)]
    rfl
theorem upd_is (hp : ∀ t ∈ ts, plainTok t) {k : Nat} (hk : k < ts.length) {s s' : Sx} (hr : runS ts k = some s) (hn : nx s (tk ts k) = some s') : updB s (tokOf ts PL TG k) (bF ts PL k) = bF ts PL (k + 1) := by
  rw [bF_next]
  have hs := nx_sgnd (tkP hp hk) hn
  have hi := run_inv (by omega) hr
  have et : (tokOf ts PL TG k).t = (tk ts k).cps.toList := rfl
  have ep : (tokOf ts PL TG k).p = PL.getD k 0 := rfl
  unfold updB
  cases hrs : rngS s with
  | none =>
    rw [hrs] at hs
    have : outR ts k = false := by unfold outR; rw [← hs]; rfl
    rw [this]
    cases bF ts PL k <;> rfl
  | some r =>
    rw [hrs] at hs
    have hrr := inv_rng hi hrs
    have ho : outR ts k = !(decide (r.1 ≤ numV (tk ts k).cps.toList) && decide (numV (tk ts k).cps.toList ≤ r.2)) := by
      unfold outR
      rw [← hs, hrr]; rfl
    rw [ho, et, ep]
    cases bF ts PL k with
    | some b => simp
    | none =>
      simp only [true_and]
      by_cases h : r.1 ≤ numV (tk ts k).cps.toList ∧ numV (tk ts k).cps.toList ≤ r.2
      · rw [if_neg (by simpa using h), decide_eq_true h.1, decide_eq_true h.2]; rfl
      · rw [if_pos h]
        have : (decide (r.1 ≤ numV (tk ts k).cps.toList) && decide (numV (tk ts k).cps.toList ≤ r.2)) = false := by
          rw [Bool.and_eq_false_iff]
          by_cases h1 : r.1 ≤ numV (tk ts k).cps.toList
          · exact .inr (decide_eq_false fun h2 => h ⟨h1, h2⟩)
          · exact .inl (decide_eq_false h1)
        rw [this]; rfl
theorem auto_idx (hp : ∀ t ∈ ts, plainTok t) (hT : ∀ k ∈ TG, tk ts k ≠ ";") : ∀ k, k ≤ ts.length → (∀ j, j < k → badK ts TG j = false) → ∃ s, runS ts k = some s ∧ auto .start (allT ts PL TG tl) none 1 = auto s ((allT ts PL TG tl).drop k) (bF ts PL k) (cF ts k)
  | 0, _, _ => ⟨.start, rfl, by rw [List.drop_zero]; rfl⟩
  | k + 1, hk, hb => by
    obtain ⟨s, hs, e⟩ := auto_idx hp hT k (by omega) fun j hj => hb j (by omega)
    have hbk := hb k (by omega)
    unfold badK at hbk
    rw [Bool.or_eq_false_iff] at hbk
    have hm : k ∉ TG := of_decide_eq_false hbk.2
    have hr : runS ts (k + 1) = nx s (tk ts k) := by
      show (match runS ts k with | some s => nx s (tk ts k) | none => none) = _
      rw [hs]
    cases hn : nx s (tk ts k) with
    | none => rw [hr, hn] at hbk; exact absurd hbk.1 (by decide)
    | some s' =>
      refine ⟨s', by rw [hr, hn], ?_⟩
      rw [e, all_drop (by omega), auto, if_neg (by rw [tok_end]; decide), tok_step hT, if_neg hm, hn]
      simp only
      rw [upd_is hp (by omega) hs hn, cF_next (by omega), tok_sep]
      by_cases h : tk ts k = ";" <;> simp [h]
theorem all_ww (hp : ∀ t ∈ ts, plainTok t) : WW (allT ts PL TG tl) := by
  refine ⟨_, _, rfl, end_is, fun t ht => ?_⟩
  obtain ⟨k, hk, rfl⟩ := List.mem_map.mp ht
  exact ⟨tok_end k, tok_wf hp (List.mem_range.mp hk)⟩
theorem find_least {n : Nat} {f : Nat → Bool} {k : Nat} (h : (List.range n).find? f = some k) : k < n ∧ f k = true ∧ ∀ j, j < k → f j = false := by
  have h1 := List.mem_range.mp (List.mem_of_find?_eq_some h)
  have h2 := List.find?_some h
  refine ⟨h1, h2, fun j hj => ?_⟩
  obtain ⟨_, as, bs, e, h3⟩ := List.find?_eq_some_iff_append.mp h
  have := (range_at e).1
  have hj2 : j ∈ as := by
    have h5 : (List.range n)[j]? = some j := by rw [List.getElem?_range (by omega)]
    rw [e, List.getElem?_append_left (by omega)] at h5
    exact List.mem_of_getElem? h5
  have := h3 j hj2
  simpa using this
theorem find_none_all {n : Nat} {f : Nat → Bool} (h : (List.range n).find? f = none) : ∀ j, j < n → f j = false := fun j hj => by
  have := List.find?_eq_none.mp h j (List.mem_range.mpr hj)
  simpa using this
/-- without an unknown sign: the reading ends as it is due -/
theorem out_due (hp : ∀ t ∈ ts, plainTok t) (hT : ∀ k ∈ TG, tk ts k ≠ ";") : outOf (allT ts PL TG tl) none = dueF ts tl PL TG := by
  have hodd : (List.range ts.length).find? (fun k => isOdd (tk ts k)) = none := by
    refine find_none_of fun j hj => ?_
    have := tkP hp (List.mem_range.mp hj)
    unfold isOdd
    rcases this.2 with h | h | h
    · rw [h]; decide +kernel
    · have h1 := (wd_c0 h)
      rw [decide_eq_false, decide_eq_false]; rfl
      · intro e; rw [e] at h1; exact absurd h1.1 (by decide +kernel)
      · intro e; rw [e] at h1; exact absurd h1.1 (by decide +kernel)
    · obtain ⟨_, _, h3, _⟩ := num_c0 h
      rw [decide_eq_false, decide_eq_false]; rfl
      · intro e
        have h4 := (num_c0 h).1
        rw [e] at h4
        rcases h4 with h4 | h4 <;> exact absurd h4 (by decide +kernel)
      · intro e; rw [e] at h3; exact h3 (by decide +kernel)
  unfold dueF
  rw [hodd]
  simp only
  by_cases hne : ts = []
  · subst hne
    have e : allT [] PL TG tl = [⟨"end", [], tl⟩] := rfl
    rw [e]
    unfold outOf mPieces
    rw [show headEnd [(⟨"end", [], tl⟩ : Tk)] = true from end_is]
    rfl
  · have hpos : 0 < ts.length := List.length_pos_iff.mpr hne
    have hhd : headEnd (allT ts PL TG tl) = false := by
      have := all_drop (ts := ts) (PL := PL) (TG := TG) (tl := tl) (k := 0) hpos
      rw [List.drop_zero] at this
      rw [this]
      exact tok_end 0
    have h0 : ((allT ts PL TG tl).getD 0 ⟨⟨#[]⟩, [], 0⟩).p = PL.getD 0 0 := by
      have := all_drop (ts := ts) (PL := PL) (TG := TG) (tl := tl) (k := 0) hpos
      rw [List.drop_zero] at this
      rw [this]; rfl
    have hpa := pieces_auto (allT ts PL TG tl) (all_ww hp) hhd
    unfold outOf
    rw [h0]
    have er : ∀ p m, auto .start (allT ts PL TG tl) none 1 = .er p m → mPieces (allT ts PL TG tl) none = .er p m := fun p m h => by
      cases hm : mPieces (allT ts PL TG tl) none with
      | er p2 m2 => rw [hm] at hpa; rw [h] at hpa; cases hpa; rfl
      | ok c n b => rw [hm] at hpa; rw [h] at hpa; cases hpa
    cases hb : (List.range ts.length).find? (badK ts TG) with
    | some k =>
      obtain ⟨h1, h2, h3⟩ := find_least hb
      obtain ⟨s, hs, e⟩ := auto_idx (PL := PL) (tl := tl) hp hT k (by omega) h3
      have hr : runS ts (k + 1) = nx s (tk ts k) := by
        show (match runS ts k with | some s => nx s (tk ts k) | none => none) = _
        rw [hs]
      have hst : stepT s (tokOf ts PL TG k) = none := by
        rw [tok_step hT]
        unfold badK at h2
        rw [hr] at h2
        split
        · rfl
        · rename_i hm
          rw [decide_eq_false hm, Bool.or_false] at h2
          exact Option.isNone_iff_eq_none.mp h2
      have := er (PL.getD k 0) "unexpected token" (by rw [e, all_drop h1, auto, if_neg (by rw [tok_end]; decide), hst]; rfl)
      rw [this]
    | none =>
      obtain ⟨s, hs, e⟩ := auto_idx (PL := PL) (tl := tl) hp hT ts.length (Nat.le_refl _) (find_none_all hb)
      rw [all_last] at e
      have hE : isEnd (⟨"end", [], tl⟩ : Tk) = true := end_is
      rw [auto, if_pos hE] at e
      simp only
      rw [hs]
      cases hf : isFin (some s) with
      | false =>
        rw [hf, if_neg (by decide)] at e
        rw [er _ _ e, if_pos ⟨hne, rfl⟩]
      | true =>
        rw [hf, if_pos rfl] at e
        rw [if_neg (fun h => absurd h.2 (by decide))]
        cases hm : mPieces (allT ts PL TG tl) none with
        | er p2 m2 => rw [hm] at hpa; rw [e] at hpa; cases hpa
        | ok c n b =>
          rw [hm] at hpa
          rw [e] at hpa
          injection hpa with e1 e2
          subst e1; subst e2
          unfold bF
          cases (List.range ts.length).find? (outR ts) with
          | some k => rfl
          | none =>
            have ec : cF ts ts.length = (ts.filter (fun t => decide (t = (";" : Str)))).length + 1 := by unfold cF; rw [List.take_length]; omega
            show (if 40 < cF ts ts.length then _ else _) = _
            rw [ec]
end
end K42
end

-- part EM
section
namespace K42
open PySem L2 DL PySem.NumText
/-! ### runs of words -/
def KB (R : Nat) (l : List Str) : Prop := ∀ j, ((l.drop j).takeWhile wordK).length ≤ R
theorem tw_le {α : Type} (p : α → Bool) (l : List α) : (l.takeWhile p).length ≤ l.length := (List.takeWhile_sublist p).length_le
theorem tw_app {α : Type} (p : α → Bool) : ∀ l m : List α, ((l ++ m).takeWhile p).length ≤ (l.takeWhile p).length + (m.takeWhile p).length
  | [], m => by simp
  | a :: l, m => by
    rw [List.cons_append, List.takeWhile_cons, List.takeWhile_cons]
    split
    · have := tw_app p l m
      simp only [List.length_cons]; omega
    · simp
theorem kb_len {R : Nat} {l : List Str} (h : l.length ≤ R) : KB R l := fun j => Nat.le_trans (tw_le _ _) (by rw [List.length_drop]; omega)
theorem kb_drop {R : Nat} {l : List Str} (h : KB R l) (k : Nat) : KB R (l.drop k) := fun j => by rw [List.drop_drop]; exact h _
theorem tw_take {α : Type} (p : α → Bool) : ∀ (l : List α) (k : Nat), ((l.take k).takeWhile p).length ≤ (l.takeWhile p).length
  | [], k => by simp
  | a :: l, 0 => by simp
  | a :: l, k + 1 => by
    rw [List.take_succ_cons, List.takeWhile_cons, List.takeWhile_cons]
    split
    · have := tw_take p l k
      simp only [List.length_cons]; omega
    · simp
theorem kb_take {R : Nat} {l : List Str} (h : KB R l) (k : Nat) : KB R (l.take k) := fun j => by
  rw [List.drop_take]
  exact Nat.le_trans (tw_take _ _ _) (h j)
theorem kb_app {R S : Nat} {l m : List Str} (h1 : KB R l) (h2 : KB S m) : KB (R + S) (l ++ m) := fun j => by
  rw [List.drop_append]
  have a := tw_app wordK (l.drop j) (m.drop (j - l.length))
  have b := h1 j
  have c := h2 (j - l.length)
  omega
theorem tw_sep (l m : List Str) : ((l ++ (";" : Str) :: m).takeWhile wordK).length = (l.takeWhile wordK).length := by
  induction l with
  | nil =>
    rw [List.nil_append, List.takeWhile_cons, if_neg (by rw [sep_numb.2]; decide)]; rfl
  | cons a l ih =>
    rw [List.cons_append, List.takeWhile_cons, List.takeWhile_cons]
    split
    · simp only [List.length_cons, ih]
    · rfl
theorem kb_sep {R : Nat} {l m : List Str} (h1 : KB R l) (h2 : KB R m) : KB R (l ++ (";" : Str) :: m) := fun j => by
  rw [List.drop_append]
  by_cases h : j ≤ l.length
  · rw [show j - l.length = 0 by omega, List.drop_zero, tw_sep]
    exact h1 j
  · rw [List.drop_eq_nil_of_le (by omega), List.nil_append]
    obtain ⟨i, hi⟩ : ∃ i, j - l.length = i + 1 := ⟨j - l.length - 1, by omega⟩
    rw [hi, List.drop_succ_cons]
    exact h2 i
theorem kb_mono {R S : Nat} {l : List Str} (h : KB R l) (hs : R ≤ S) : KB S l := fun j => Nat.le_trans (h j) hs
def okToks (R N : Nat) (ts : List Str) : Prop := (∀ t ∈ ts, okTok t) ∧ KB R ts ∧ ts.length ≤ N
theorem num_ok {i : Int} (h : -10000000 ≤ i ∧ i ≤ 10000000) : okTok (numS i) := by
  obtain ⟨h1, _, h3⟩ := num_T h
  rw [Array.length_toList] at h3
  exact ⟨by have : (numS i).length ≤ 9 := h3; omega, .inr (.inr (.inr (.inr h1)))⟩
theorem wd_ok {s : Str} (h : (decide (s.length ≤ 10) && (decide (s.cps.toList ≠ []) && s.cps.toList.all isL)) = true) : okTok s := by
  rw [Bool.and_eq_true, Bool.and_eq_true] at h
  exact ⟨of_decide_eq_true h.1, .inr (.inr (.inr (.inl ⟨of_decide_eq_true h.2.1, fun c hc => List.all_eq_true.mp h.2.2 c hc⟩)))⟩
theorem key_ok {k : Str} (h : okKey k) : okTok k := ⟨by have := h.2.2; omega, .inr (.inr (.inr (.inl ⟨h.1, h.2.1⟩)))⟩
theorem words_ok {q : Pc} (h : okP q) : okToks 8 8 (wordsP q) := by
  have hl : (wordsP q).length ≤ 8 := by
    cases q <;> unfold okP at h <;> unfold wordsP <;> simp only [List.length_cons, List.length_nil]
    · have : _ ≤ 5 := h.2.2.1; omega
    · omega
    · have : _ ≤ 5 := h.2.2.1; omega
    all_goals omega
  refine ⟨fun t ht => ?_, kb_len hl, hl⟩
  cases q <;> unfold okP at h <;> unfold wordsP at ht <;> simp only [List.mem_cons, List.not_mem_nil, or_false] at ht
  · rcases ht with rfl | rfl | rfl | ht
    · exact wd_ok (by decide +kernel)
    · exact num_ok (by omega)
    · exact wd_ok (by decide +kernel)
    · exact key_ok (h.2.2.2.2 t ht)
  · rcases ht with rfl | rfl | rfl | rfl
    · exact wd_ok (by decide +kernel)
    · exact num_ok (by omega)
    · exact wd_ok (by decide +kernel)
    · exact num_ok (by omega)
  · rcases ht with rfl | rfl | rfl | ht
    · exact wd_ok (by decide +kernel)
    · exact num_ok (by omega)
    · exact wd_ok (by decide +kernel)
    · exact key_ok (h.2.2.2.2 t ht)
  · rcases ht with rfl | rfl | rfl | rfl
    · exact wd_ok (by decide +kernel)
    · exact num_ok (by omega)
    · exact wd_ok (by decide +kernel)
    · exact key_ok h.2
  · rcases ht with rfl | rfl | rfl | rfl | rfl
    · exact wd_ok (by decide +kernel)
    · exact num_ok (by omega)
    · exact wd_ok (by decide +kernel)
    · exact key_ok h.2.1
    · exact num_ok (by omega)
  · rcases ht with rfl | rfl | rfl | rfl | rfl
    · exact wd_ok (by decide +kernel)
    · exact num_ok (by omega)
    · exact wd_ok (by decide +kernel)
    · exact key_ok h.2.1
    · exact num_ok (by omega)
  · rcases ht with rfl | rfl
    · exact wd_ok (by decide +kernel)
    · exact num_ok (by omega)
theorem signs_ok : ∀ s ∈ signs12, okTok s := by
  have e0 : ("0" : Str) = numS 0 := by decide +kernel
  have e1 : ("21" : Str) = numS 21 := by decide +kernel
  have e2 : ("-1" : Str) = numS (-1) := by decide +kernel
  have e3 : ("1000001" : Str) = numS 1000001 := by decide +kernel
  intro s hs
  unfold signs12 at hs
  simp only [List.mem_cons, List.not_mem_nil, or_false] at hs
  rcases hs with rfl | rfl | rfl | rfl | rfl | rfl | rfl | rfl | rfl | rfl | rfl | rfl
  · exact okTok_sep
  · exact wd_ok (by decide +kernel)
  · exact wd_ok (by decide +kernel)
  · exact wd_ok (by decide +kernel)
  · rw [e0]; exact num_ok (by omega)
  · rw [e1]; exact num_ok (by omega)
  · rw [e2]; exact num_ok (by omega)
  · rw [e3]; exact num_ok (by omega)
  · exact wd_ok (by decide +kernel)
  · exact ⟨by decide, .inr (.inl rfl)⟩
  · exact ⟨by decide, .inr (.inr (.inl rfl))⟩
  · exact wd_ok (by decide +kernel)
theorem chg_ok {R N : Nat} {ts ts' : List Str} (h : okToks R N ts) (hc : Chg ts ts') : okToks (2 * R + 1) (N + 1) ts' := by
  obtain ⟨h1, h2, h3⟩ := h
  rcases hc with rfl | ⟨k, hk, rfl | rfl | ⟨s, hs, e, he, rfl⟩⟩
  · exact ⟨h1, kb_mono h2 (by omega), by omega⟩
  · exact ⟨fun t ht => h1 t (List.mem_of_mem_take ht), kb_mono (kb_take h2 k) (by omega), by rw [List.length_take]; omega⟩
  · refine ⟨fun t ht => ?_, kb_mono (kb_app (kb_take h2 k) (kb_drop h2 (k + 1))) (by omega), by rw [List.length_append, List.length_take, List.length_drop]; omega⟩
    rcases List.mem_append.mp ht with ht | ht
    · exact h1 t (List.mem_of_mem_take ht)
    · exact h1 t (List.mem_of_mem_drop ht)
  · refine ⟨fun t ht => ?_, kb_mono (kb_app (kb_app (kb_take h2 k) (kb_len (R := 1) (by simp))) (kb_drop h2 e)) (by omega), by rw [List.length_append, List.length_append, List.length_take, List.length_drop]; simp; omega⟩
    rcases List.mem_append.mp ht with ht | ht
    · rcases List.mem_append.mp ht with ht | ht
      · exact h1 t (List.mem_of_mem_take ht)
      · simp at ht; subst ht; exact signs_ok _ hs
    · exact h1 t (List.mem_of_mem_drop ht)
/-! ### what stands in the text, and what is due -/
theorem jn_pl {pre : List Nat} {ts : List Str} {k : Nat} {text pl tg : List Nat} {cs : List (List Nat)} (h : Jn pre ts k text pl tg cs) : (∀ x ∈ pl, x ≤ text.length) ∧ ∀ j ∈ tg, tk ts j ≠ ";" := by
  induction h with
  | nil => exact ⟨fun _ h => absurd h List.not_mem_nil, fun _ h => absurd h List.not_mem_nil⟩
  | @snoc k text pl tg cs c h hk hc ih =>
    refine ⟨fun x hx => ?_, fun j hj => ?_⟩
    · rw [List.length_append, List.length_append]
      rcases List.mem_append.mp hx with hx | hx
      · have := ih.1 x hx; omega
      · simp at hx; omega
    · rcases List.mem_append.mp hj with hj | hj
      · exact ih.2 j hj
      · split at hj
        · rename_i ht
          simp at hj
          subst hj
          unfold tgt at ht
          rw [Bool.and_eq_true, Bool.and_eq_true, Bool.and_eq_true] at ht
          exact of_decide_eq_true ht.2.2.1
        · cases hj
def msgs : List Str := ["unknown character", "unexpected token", "unexpected end", "number out of range", "too many pieces", "news"]
theorem msgs_ok : ∀ m ∈ msgs, SOk m ∧ m.length ≤ 100 := by decide +kernel
theorem due_ok {ts : List Str} {tl : Nat} {pl tg : List Nat} (h : ∀ x ∈ pl, x ≤ tl) : (dueF ts tl pl tg).1 ∈ msgs ∧ (dueF ts tl pl tg).2 ≤ tl := by
  have hp : ∀ k, pl.getD k 0 ≤ tl := fun k => by
    rw [List.getD_eq_getElem?_getD]
    cases e : pl[k]? with
    | none => exact Nat.zero_le _
    | some x => exact h x (List.mem_of_getElem? e)
  unfold dueF
  split
  · exact ⟨by simp [msgs], hp _⟩
  · split
    · exact ⟨by simp [msgs], hp _⟩
    · split
      · exact ⟨by simp [msgs], Nat.le_refl _⟩
      · split
        · exact ⟨by simp [msgs], hp _⟩
        · split
          · exact ⟨by simp [msgs], hp _⟩
          · exact ⟨by simp [msgs], Nat.zero_le _⟩
theorem tw_map {α : Type} {f : Nat → Tk} {g : Nat → α} {p : Tk → Bool} {q : α → Bool} {e : Tk} (he : p e = false) : ∀ l : List Nat, (∀ k ∈ l, p (f k) = true → q (g k) = true) → (((l.map f) ++ [e]).takeWhile p).length ≤ ((l.map g).takeWhile q).length
  | [], _ => by
    rw [List.map_nil, List.nil_append, List.takeWhile_cons, if_neg (by rw [he]; decide)]; simp
  | a :: l, h => by
    rw [List.map_cons, List.map_cons, List.cons_append, List.takeWhile_cons, List.takeWhile_cons]
    cases hp : p (f a) with
    | false => simp
    | true =>
      rw [if_pos rfl, if_pos (h a (by simp) hp), List.length_cons, List.length_cons]
      have := tw_map (q := q) he l fun k hk => h k (by simp [hk])
      omega
theorem toks_map (ts : List Str) : (List.range ts.length).map (tk ts) = ts := by
  apply List.ext_getElem
  · rw [List.length_map, List.length_range]
  · intro i h1 h2
    rw [List.getElem_map, List.getElem_range]
    unfold tk
    rw [List.getD_eq_getElem?_getD, List.getElem?_eq_getElem h2]
    rfl
theorem all_well {ts : List Str} {PL TG : List Nat} {tl : Nat} (hp : ∀ t ∈ ts, plainTok t) (hT : ∀ k ∈ TG, tk ts k ≠ ";") (hk : KB 63 ts) : Well (allT ts PL TG tl) := by
  unfold allT
  refine ⟨_, _, rfl, rfl, fun t ht => ?_, fun j => ?_⟩
  · obtain ⟨k, hk, rfl⟩ := List.mem_map.mp ht
    have hk := List.mem_range.mp hk
    refine ⟨fun e => ?_, fun e => ?_⟩
    · have := tok_end (ts := ts) (PL := PL) (TG := TG) k
      unfold isEnd at this
      rw [e] at this
      exact absurd this (by decide +kernel)
    · have := tok_wf (PL := PL) (TG := TG) hp hk
      unfold WfT at this
      rw [e] at this
      rcases this with h | h | h | h
      · exact absurd h (by decide +kernel)
      · exact absurd h.1 (by decide +kernel)
      · exact absurd h.1 (by decide +kernel)
      · exact h.2
  · by_cases hj : j ≤ ts.length
    · have e1 : ((List.range ts.length).map (tokOf ts PL TG) ++ [(⟨"end", [], tl⟩ : Tk)]).drop j = ((List.range ts.length).drop j).map (tokOf ts PL TG) ++ [⟨"end", [], tl⟩] := by
        rw [List.drop_append, List.map_drop, List.length_map, List.length_range, show j - ts.length = 0 by omega, List.drop_zero]
      rw [e1]
      have h1 := tw_map (f := tokOf ts PL TG) (g := tk ts) (p := isKey) (q := wordK) (e := ⟨"end", [], tl⟩) (end_no end_is).1 ((List.range ts.length).drop j) fun k hk2 h => by
        have hk3 : k < ts.length := List.mem_range.mp (List.mem_of_mem_drop hk2)
        rcases kinds (tok_wf (PL := PL) (TG := TG) hp hk3) with ⟨_, _, g, _⟩ | ⟨_, _, g, _⟩
        · rw [g] at h; cases h
        · rw [g, tok_tS] at h; exact h
      have h2 := hk j
      have e5 : ((List.range ts.length).drop j).map (tk ts) = ts.drop j := by rw [List.map_drop, toks_map]
      rw [e5] at h1
      omega
    · rw [List.drop_eq_nil_of_le (by rw [List.length_append, List.length_map, List.length_range]; simp; omega)]
      simp
/-- the text is read as it is due -/
theorem text_due {pre : List Nat} {ts : List Str} {text pl tg : List Nat} {cs : List (List Nat)} (ho : ∀ t ∈ ts, okTok t) (hk : KB 63 ts) (hl : ts.length ≤ 600) (hpre : pre = [] ∨ pre = [32]) (hJ : Jn pre ts ts.length text pl tg cs) (h3 : text.length ≤ 3000) :
    ∃ tks r, Scn false 0 text tks r ∧ (r = none → Well tks ∧ tks.length ≤ 9001) ∧ outOf tks r = dueF ts text.length pl tg := by
  obtain ⟨⟨rr, er⟩, hpl, htg⟩ := jn_more hJ
  obtain ⟨hpx, hT⟩ := jn_pl hJ
  have hF := jn_fr hJ (PL := pl) (TG := tg) (tl := text.length) (rest := []) (by rw [← hpl, List.take_length]) (fun j _ => Iff.rfl) .nil
  rw [List.append_nil] at hF
  have hb : Bok ts tg 0 false := fun _ _ _ => ⟨(fun h => nomatch h), fun h => by have := htg 0 h; omega⟩
  obtain ⟨tks, r, hs, hr⟩ := scan_of ho hF false hb
  refine ⟨tks, r, ?_, ?_⟩
  · rcases hpre with rfl | rfl
    · simpa using hs
    · rw [er] at hs ⊢
      rw [List.drop_left' rfl] at hs
      exact .blank (by decide) hs
  · rcases hr with ⟨q, _, hq1, hq2, hq3, rfl⟩ | ⟨hno, rfl, htks⟩
    · refine ⟨(fun h => nomatch h), ?_⟩
      have hf : (List.range ts.length).find? (fun k => isOdd (tk ts k)) = some q := by
        have e : List.range ts.length = List.range q ++ q :: List.range' (q + 1) (ts.length - (q + 1)) := by
          obtain ⟨m, hm⟩ : ∃ m, ts.length = q + (m + 1) := ⟨ts.length - (q + 1), by omega⟩
          rw [hm, show q + (m + 1) - (q + 1) = m by omega, List.range_eq_range', List.range_eq_range', ← List.range'_append, List.range'_succ]
          simp
        exact find_first e (fun j hj => hq3 j (Nat.zero_le _) (List.mem_range.mp hj)) hq2
      unfold dueF outOf
      rw [hf]
    · have hplain : ∀ t ∈ ts, plainTok t := fun t ht => by
        obtain ⟨j, hj, e2⟩ := List.getElem_of_mem ht
        have h1 := hno j (Nat.zero_le _) hj
        have e3 : tk ts j = t := by unfold tk; rw [List.getD_eq_getElem?_getD, List.getElem?_eq_getElem hj, e2]; rfl
        rw [e3] at h1
        obtain ⟨n1, n2⟩ := not_odd h1
        have h2 := ho t ht
        refine ⟨h2.1, ?_⟩
        rcases h2.2 with h | h | h | h | h
        · exact .inl h
        · exact absurd h n1
        · exact absurd h n2
        · exact .inr (.inl h)
        · exact .inr (.inr h)
      have ea : tks = allT ts pl tg text.length := by
        rw [htks]; unfold allT
        rw [List.range_eq_range', Nat.sub_zero]
      subst ea
      refine ⟨fun _ => ⟨all_well hplain hT hk, ?_⟩, out_due hplain hT⟩
      unfold allT
      rw [List.length_append, List.length_map, List.length_range]
      simp; omega
end K42
end

-- part EN2
section
local macro_rules | `(tactic| walk_at "dl") => `(tactic| simp only [DL.sRet, DL.dJoined, DL.dJs, DL.dFmt, DL.dFld, DL.dMeth, DL.dMake, DL.sFld, DL.sFldI, DL.sSeq, DL.sSet, DL.sIf, DL.sNext, DL.sNever, DL.sDrop, DL.sAsg, DL.sRetN, DL.dVar, DL.dC, DL.dOp, DL.dTest, DL.dAnd, DL.dOr, DL.dNot, DL.dTru, DL.dAndV, DL.dOrV, DL.dNotV, DL.dIf, DL.aNil, DL.aCons, DL.dTup, DL.dLst, DL.dLstM, DL.dCall, DL.dFrz, DL.dB, DL.dNeg, DL.dSl, DL.oNone, DL.oSome, DL.dChn, DL.gN, DL.gT, DL.setAll, DL.fOf, DL.aNilX, DL.aConsX, DL.dTupX, DL.dLstMX, DL.dCallX, DL.dCallN, DL.dMethX, DL.xOf, DL.xNext, DL.xSeq, DL.xDrop, DL.xRet, DL.xIf, DL.xSet, DL.xFrz, DL.xApp, DL.xRaise, DL.dWix, DL.dWget, DL.optS,
  DL.ix_l, DL.ix_t, DL.ix_s, DL.ix_p, DL.add_i, DL.add_s, DL.add_l, DL.add_t, DL.mul_i, DL.mul_b, DL.sub_i, DL.fdiv_i, DL.mod_i, DL.pow_i, DL.shl_i, DL.shr_i, DL.and_i, DL.lt_i, DL.le_i, DL.gt_i, DL.ge_i, DL.le_s, DL.in_t, DL.in_l, DL.in_s, DL.len_l, DL.len_t, DL.len_s, DL.len_p, DL.list_l, DL.list_t, DL.list_s, DL.list_p, DL.tuple_l, DL.tuple_t, DL.int_i, DL.int_b, DL.abs_i, DL.max_i, DL.min_i, DL.all_l, DL.any_l, DL.isi_1, DL.isi_n, DL.sl_l, DL.sl_t, DL.sl_s, DL.neg_i, DL.isN_i, DL.notN_i, DL.eq_x, DL.ne_x,
  DL.w_wrote_many, DL.w_wrote_many_b, DL.w_wrote_among, DL.w_wrote_among_b, DL.w_wrote_did, DL.w_wrote_did_b, DL.w_wrote_times, DL.w_wrote_times_b, DL.w_wrote_value, DL.w_wrote_value_b, DL.w_wrote_head, DL.w_wrote_head_b, DL.w_many_wrote, DL.w_many_wrote_b, DL.w_many_among, DL.w_many_among_b, DL.w_many_did, DL.w_many_did_b, DL.w_many_times, DL.w_many_times_b, DL.w_many_value, DL.w_many_value_b, DL.w_many_head, DL.w_many_head_b, DL.w_among_wrote, DL.w_among_wrote_b, DL.w_among_many, DL.w_among_many_b, DL.w_among_did, DL.w_among_did_b, DL.w_among_times, DL.w_among_times_b, DL.w_among_value, DL.w_among_value_b, DL.w_among_head, DL.w_among_head_b, DL.w_did_wrote, DL.w_did_wrote_b, DL.w_did_many, DL.w_did_many_b, DL.w_did_among, DL.w_did_among_b, DL.w_did_times, DL.w_did_times_b, DL.w_did_value, DL.w_did_value_b, DL.w_did_head, DL.w_did_head_b, DL.w_times_wrote, DL.w_times_wrote_b, DL.w_times_many, DL.w_times_many_b, DL.w_times_among, DL.w_times_among_b, DL.w_times_did, DL.w_times_did_b, DL.w_times_value, DL.w_times_value_b, DL.w_times_head, DL.w_times_head_b, DL.w_value_wrote, DL.w_value_wrote_b, DL.w_value_many, DL.w_value_many_b, DL.w_value_among, DL.w_value_among_b, DL.w_value_did, DL.w_value_did_b, DL.w_value_times, DL.w_value_times_b, DL.w_value_head, DL.w_value_head_b, DL.w_head_wrote, DL.w_head_wrote_b, DL.w_head_many, DL.w_head_many_b, DL.w_head_among, DL.w_head_among_b, DL.w_head_did, DL.w_head_did_b, DL.w_head_times, DL.w_head_times_b, DL.w_head_value, DL.w_head_value_b,
  DL.q_ss, DL.q_ii, DL.q_bb, DL.q_nn, DL.q_tt, DL.q_ll, DL.q_si, DL.q_sn, DL.q_st, DL.q_sl, DL.q_is, DL.q_in, DL.q_it, DL.q_il, DL.q_ns, DL.q_ni, DL.q_nt, DL.q_nl, DL.q_ts, DL.q_ti, DL.q_tn, DL.q_tl, DL.q_ls, DL.q_li, DL.q_ln, DL.q_lt, DL.qs_nil, DL.qs_cons, DL.qs_nc, DL.qs_cn, DL.p_t16, DL.p_l16, DL.p_t15, DL.p_l15, DL.p_t14, DL.p_l14, DL.p_t13, DL.p_l13, DL.p_t12, DL.p_l12, DL.p_s, DL.p_i, DL.p_b, DL.p_n, DL.ps_nil, DL.ps_cons, DL.t_b, DL.t_i, DL.t_l, DL.t_t, DL.t_n, DL.n_n, DL.n_i, DL.n_s, DL.n_t, DL.n_l, DL.n_b, DL.f_s, DL.f_i,
  Bool.false_and, Bool.and_false, DL.z0, DL.z1, DL.z2, DL.z3, DL.z4, DL.z5, DL.z6, DL.z12,
  DL.startD, DL.sFrz, DL.sApp, DL.yesD, DL.lcTurn, DL.wipeE, DL.at0, DL.at1, DL.at2, DL.at3, DL.at4, List.map_cons, List.map_nil, List.replicate_succ, List.replicate_zero, List.length_cons, List.length_nil, List.cons_append, List.nil_append, List.set_cons_zero, List.set_cons_succ, List.getElem?_cons_zero, List.getElem?_cons_succ, Option.some.injEq, exists_eq_left, exists_eq_left', exists_eq', exists_eq, true_and, and_true, decide_eq_true_eq, if_true, if_false, Bool.false_eq_true, reduceIte, Nat.reduceAdd, Nat.reduceSub, DL.D.bl.injEq, DL.D.int.injEq, DL.D.str.injEq, DL.D.tup.injEq, DL.D.lst.injEq, DL.D.ptr.injEq, Bool.not_true, Bool.not_false, beq_self_eq_true, List.all_cons, List.all_nil, List.any_cons, List.any_nil, Bool.and_true, Bool.true_and, Bool.or_false, Bool.false_or, Bool.or_true, Bool.true_or, Bool.false_xor, Bool.true_xor, beq_iff_eq, Bool.not_eq_true, Int.reduceEq, Int.reduceBEq, and_self])

namespace K42
open PySem L2 DL PySem.NumText
def C_law : CT := fun ds μ Q => match ds with
  | [.scr ns] => ns.length ≤ 63 ∧ ∀ μ', Q (.bl true) μ'
  | _ => False
def piecesT : List Pc → List Str
  | [] => []
  | q :: r => wordsP q ++ (r.flatMap fun p => (";" : Str) :: wordsP p)
section
variable {P : Program} {w : World} {K : PySem.W.Frag} {mg : Str → Option Value} {base : Heap}
theorem ok_law (T : Tx K mg) : FnOk P w K mg base CX0 11 T.a_law T.d_law ["script"] (spD K C_law) :=
  DL.Fun.okD (N := ["script", "draw", "turn", "shelf", "many", "tokens", "piece", "times", "text", "places", "tight"]) T.F_law sc_law (fun cdv A outer s H E hr => 
      (dss_cons (ds_set 1 sc_law.nd (de_call (ok__law_draw T) (hr.mono (by decide)) (by rfl) T.m__law_draw T.k__law_draw T.v__law_draw pass0 (da_cons (dv 0) da_nil))) 
      (dss_cons (ds_for PassesOwn.never rfl (di_rg1 (by rfl) T.b_range (da_cons de_int da_nil)) (dg_name 2 sc_law.nd) 
      (dss_cons (ds_set 3 sc_law.nd (de_call (ok__law_shelf T) (hr.mono (by decide)) (by rfl) T.m__law_shelf T.k__law_shelf T.v__law_shelf pass0 (da_cons (dv 1) da_nil))) 
      (dss_cons (ds_set 4 sc_law.nd (de_if (dt_tru (de_call (ok__law_next T) (hr.mono (by decide)) (by rfl) T.m__law_next T.k__law_next T.v__law_next pass0 (da_cons (dv 1) (da_cons de_int da_nil)))) de_int de_int)) 
      (dss_cons (ds_set 5 sc_law.nd (de_lst da_nil)) 
      (dss_cons (ds_for PassesOwn.never rfl (di_seq (de_call (ok__law_news T) (hr.mono (by decide)) (by rfl) T.m__law_news T.k__law_news T.v__law_news pass0 (da_cons (dv 1) (da_cons (dv 3) (da_cons de_int (da_cons (dv 4) (da_cons de_bl da_nil))))))) (dg_name 6 sc_law.nd) 
      (dss_one (ds_set 5 sc_law.nd (de_op op_addD od_add (de_op op_addD od_add (dv 5) (de_if (dt_tru (dv 5)) (de_lst (da_cons (de_str) da_nil)) (de_lst da_nil))) (de_call (ok__law_tokens T) (hr.mono (by decide)) (by rfl) T.m__law_tokens T.k__law_tokens T.v__law_tokens pass0 (da_cons (dv 6) da_nil)))))) 
      (dss_cons (ds_for PassesOwn.never rfl (di_rg1 (by rfl) T.b_range (da_cons (de_call (ok__law_next T) (hr.mono (by decide)) (by rfl) T.m__law_next T.k__law_next T.v__law_next pass0 (da_cons (dv 1) (da_cons de_int da_nil))) da_nil)) (dg_name 7 sc_law.nd) 
      (dss_one (ds_set 5 sc_law.nd (de_call (ok__law_changed T) (hr.mono (by decide)) (by rfl) T.m__law_changed T.k__law_changed T.v__law_changed pass0 (da_cons (dv 1) (da_cons (dv 5) da_nil)))))) 
      (dss_cons (ds_asg (de_call (ok__law_joined T) (hr.mono (by decide)) (by rfl) T.m__law_joined T.k__law_joined T.v__law_joined pass0 (da_cons (dv 1) (da_cons (dv 5) da_nil))) (dg_tup [8, 9, 10] rfl (pgs_cons (pg_name (i := 8) sc_law.nd rfl (by first | exact Or.inl rfl | exact Or.inr rfl)) (pgs_cons (pg_name (i := 9) sc_law.nd rfl (by first | exact Or.inl rfl | exact Or.inr rfl)) (pgs_cons (pg_name (i := 10) sc_law.nd rfl (by first | exact Or.inl rfl | exact Or.inr rfl)) pgs_nil))))) 
      (dss_one (ds_if (dw_pt (dw_and (dt_cmp op_leD od_le (de_B L2.call_len cd_len (by rfl) T.b_len (by decide +kernel) (da_cons (dv 8) da_nil)) de_int (nomark _)) (dw_and1 (dt_not (dt_tru (de_call (ok__law_same T) (hr.mono (by decide)) (by rfl) T.m__law_same T.k__law_same T.v__law_same pass0 (da_cons (de_call (ok__law_asked T) (hr.mono (by decide)) (by rfl) T.m__law_asked T.k__law_asked T.v__law_asked pass0 (da_cons (dv 8) da_nil)) (da_cons (de_call (ok__law_due T) (hr.mono (by decide)) (by rfl) T.m__law_due T.k__law_due T.v__law_due pass0 (da_cons (dv 5) (da_cons (dv 8) (da_cons (dv 9) (da_cons (dv 10) da_nil))))) da_nil)))))))) 
      (dss_one (ds_ret de_bl)) dss_nil))))))))) 
      (dss_one (ds_ret de_bl)))))
    (by intro ds μ Q h; unfold C_law at h; split at h <;> first | rfl | exact h.elim) (by
  intro ds μ Q h
  unfold C_law at h
  split at h
  · rename_i ds' scr
    obtain ⟨hl, hq⟩ := h
    refine step_set (fun d μ' => ∃ dr, d = .ptr dr ∧ μ' dr = some .draw) (fun R hR => ?_) fun d μ1 hS => ?_
    · (walk_at "dl")
      exact ⟨hl, fun p hp => hR _ _ ⟨p, rfl, Mu.put_same⟩⟩
    obtain ⟨dr, rfl, hd⟩ := hS
    show sSeq _ _ _ [some (.scr scr), some (.ptr dr), none, none, none, none, none, none, none, none, none] μ1
    refine step_for (fun i : Nat => D.int (0 + (i : Nat))) (List.range 4) (fun _ ρ' μ' => (∃ a b c d e f g h i, ρ' = [some (.scr scr), some (.ptr dr), a, b, c, d, e, f, g, h, i]) ∧ μ1 = μ') (rg1 (i := 4) ⟨by decide, by decide⟩ fun R h => ?_) ⟨⟨_, _, _, _, _, _, _, _, _, rfl⟩, rfl⟩ (fun pre t post ρ' μ' e hI E0 hrt hE => ?_) fun ρ' μ' hI => ?_
    · (walk_at "dl")
      exact h
    · obtain ⟨⟨a, b, c, d, e, f, g, h, i, rfl⟩, rfl⟩ := hI
      unfold gN
      simp only [List.set_cons_zero, List.set_cons_succ]
      -- the shelf
      refine step_set (fun d μ2 => ∃ sk ∈ shelves, d = eKeys sk ∧ μ1 = μ2) (fun R hR => ?_) fun d0 μ2 hS => ?_
      · (walk_at "dl")
        exact ⟨hd, fun sk hs => hR _ _ ⟨sk, hs, rfl, rfl⟩⟩
      obtain ⟨sk, hsk, rfl, rfl⟩ := hS
      simp only [List.set_cons_zero, List.set_cons_succ]
      refine step_set (fun d μ2 => ∃ many : Int, d = .int many ∧ 0 ≤ many ∧ many ≤ 60 ∧ μ1 = μ2) (fun R hR => ?_) fun d0 μ2 hS => ?_
      · (walk_at "dl")
        refine ⟨hd, by decide, by decide, fun x x0 x1 => ⟨_, rfl, ?_⟩⟩
        split
        · exact hR _ _ ⟨8, rfl, by decide, by decide, rfl⟩
        · exact hR _ _ ⟨60, rfl, by decide, by decide, rfl⟩
      obtain ⟨many, rfl, hm0, hm60, rfl⟩ := hS
      simp only [List.set_cons_zero, List.set_cons_succ]
      refine step_set (fun d μ2 => d = eToks [] ∧ μ1 = μ2) (fun R hR => ?_) fun d0 μ2 hS => ?_
      · (walk_at "dl")
        exact hR _ _ ⟨rfl, rfl⟩
      obtain ⟨rfl, rfl⟩ := hS
      simp only [List.set_cons_zero, List.set_cons_succ]
      refine step_forQ ePc (fun l : List Pc => l.length ≤ 60 ∧ ∀ q ∈ l, okP q) (fun pre ρ' μ' => (∃ ts : List Str, okToks 8 (9 * pre.length) ts ∧ ∃ x, ρ' = [some (.scr scr), some (.ptr dr), some (.int (0 + (t : Int))), some (eKeys sk), some (.int many), some (eToks ts), x, f, g, h, i]) ∧ μ1 = μ') (fun R hR => ?_) ⟨⟨[], ⟨fun _ h => absurd h List.not_mem_nil, kb_len (by simp), by simp⟩, e, rfl⟩, rfl⟩ (fun l0 pre q post ρ' μ4 hG e2 hI E1 hrt1 hE1 => ?_) fun l0 ρ' μ4 hG hI => ?_
      · unfold iSeq
        (walk_at "dl")
        exact ⟨hd, rfl, rfl, by omega, by omega, sk, hsk, rfl, fun ns h1 h2 => hR ns ⟨h1, h2⟩⟩
      · obtain ⟨⟨ts, hts, x, rfl⟩, rfl⟩ := hI
        have hq := hG.2 q (by rw [e2]; simp)
        have hw := words_ok hq
        have hpl : pre.length ≤ 60 := by
          have h := congrArg List.length e2
          rw [List.length_append] at h
          have := hG.1
          omega
        (walk_at "dl")
        have fin : ∀ pr : List Str, (pr = [] ∧ ts = [] ∨ pr = [(";" : Str)]) → E1.nx [some (.scr scr), some (.ptr dr), some (.int (0 + (t : Int))), some (eKeys sk), some (.int many), some (eToks (ts ++ pr ++ wordsP q)), some (ePc q), f, g, h, i] μ1 := fun pr hpr => by
          refine hE1 _ _ ⟨⟨_, ?_, _, rfl⟩, rfl⟩
          obtain ⟨w1, w2, w3⟩ := hw
          obtain ⟨t1, t2, t3⟩ := hts
          rw [List.length_append, List.length_singleton]
          rcases hpr with ⟨rfl, rfl⟩ | rfl
          · exact ⟨w1, w2, by simp; omega⟩
          · rw [List.append_assoc]
            refine ⟨fun x hx => ?_, kb_sep t2 w2, by simp; omega⟩
            rcases List.mem_append.mp hx with hx | hx
            · exact t1 x hx
            · rcases List.mem_cons.mp hx with rfl | hx
              · exact okTok_sep
              · exact w1 x hx
        have hz := hw.2.2
        have hz2 := hts.2.2
        cases hts0 : ts with
        | nil =>
          refine ite_f (by rw [List.map_nil]; decide) ⟨by simp, q, rfl, hq, ?_⟩
          have f1 := fin [] (.inl ⟨rfl, hts0⟩)
          rw [hts0] at f1
          exact ⟨by simp; exact sz_small (by omega), f1⟩
        | cons a0 l =>
          rw [← hts0]
          refine ite_t (by rw [hts0]; rfl) ⟨by rw [List.length_map]; exact sz_small (by omega), q, rfl, hq, ?_⟩
          have f1 := fin [";"] (.inr rfl)
          unfold eToks at f1
          rw [List.map_append, List.map_append] at f1
          exact ⟨by rw [List.length_append, List.length_map, List.length_map]; exact sz_small (by simp; omega), f1⟩
      · obtain ⟨⟨ts, hts, x, rfl⟩, rfl⟩ := hI
        refine step_forQ (fun i : Nat => D.int (0 + (i : Nat))) (fun l => l.length ≤ 2) (fun pre ρ' μ' => (∃ ts : List Str, (∃ R N, okToks R N ts ∧ (pre.length = 0 → R = 8 ∧ N = 540) ∧ (pre.length = 1 → R = 17 ∧ N = 541) ∧ (pre.length = 2 → R = 35 ∧ N = 542)) ∧ ∃ x y, ρ' = [some (.scr scr), some (.ptr dr), some (.int (0 + (t : Int))), some (eKeys sk), some (.int many), some (eToks ts), x, y, g, h, i]) ∧ μ1 = μ') (fun R hR => ?_) ⟨⟨ts, ⟨8, 540, ⟨hts.1, hts.2.1, by have := hts.2.2; have := hG.1; omega⟩, fun _ => ⟨rfl, rfl⟩, fun h => (by cases h), fun h => (by cases h)⟩, x, f, rfl⟩, rfl⟩ (fun l1 pre q post ρ' μ4 hG1 e2 hI E1 hrt1 hE1 => ?_) fun l1 ρ' μ4 hG1 hI => ?_
        · unfold iRg1
          (walk_at "dl")
          refine ⟨hd, by decide, by decide, fun y y0 y1 => ⟨⟨by omega, by omega⟩, hR (List.range y.toNat) ?_⟩⟩
          rw [List.length_range]; omega
        · obtain ⟨⟨ts, ⟨R, N, hok, c0, c1, c2⟩, x, y, rfl⟩, rfl⟩ := hI
          have hpl : pre.length ≤ 1 := by
            have h := congrArg List.length e2
            rw [List.length_append, List.length_cons] at h
            omega
          (walk_at "dl")
          have hN : N ≤ 541 := by
            have h : pre.length = 0 ∨ pre.length = 1 := by omega
            rcases h with h | h
            · have := c0 h; omega
            · have := c1 h; omega
          refine ⟨hd, ts, rfl, by have := hok.2.2; omega, fun ts' hc => hE1 _ _ ⟨⟨ts', ⟨2 * R + 1, N + 1, chg_ok hok hc, ?_, ?_, ?_⟩, _, _, rfl⟩, rfl⟩⟩
          · rw [List.length_append, List.length_singleton]; intro h; omega
          · rw [List.length_append, List.length_singleton]
            intro h
            have := c0 (by omega); omega
          · rw [List.length_append, List.length_singleton]
            intro h
            have := c1 (by omega); omega
        · obtain ⟨⟨ts, ⟨R, N, hok, c0, c1, c2⟩, x, y, rfl⟩, rfl⟩ := hI
          have hR : R ≤ 63 ∧ N ≤ 542 := by
            have h : l1.length = 0 ∨ l1.length = 1 ∨ l1.length = 2 := by omega
            rcases h with h | h | h
            · have := c0 h; omega
            · have := c1 h; omega
            · have := c2 h; omega
          refine step (fun ρ' μ' => ∃ pr text pl tg cs, (pr = [] ∨ pr = [32]) ∧ Jn pr ts ts.length text pl tg cs ∧ (∃ z, ρ' = [some (.scr scr), some (.ptr dr), some (.int (0 + (t : Int))), some (eKeys sk), some (.int many), some (eToks ts), z, y, some (.str ⟨text.toArray⟩), some (.lst (eInts pl)), some (.lst (eInts tg))]) ∧ μ1 = μ') (fun E' hE' => ?_) fun ρ' μ' hS => ?_
          · (walk_at "dl")
            refine ⟨hd, ts, rfl, by have := hok.2.2; omega, hok.1, fun pr text pl tg cs hpr hJ => ?_⟩
            exact ⟨_, rfl, rfl, hE' _ _ ⟨pr, text, pl, tg, cs, hpr, hJ, ⟨_, rfl⟩, rfl⟩⟩
          obtain ⟨pr, text, pl, tg, cs, hpr, hJ, ⟨z, rfl⟩, rfl⟩ := hS
          (walk_at "dl")
          have elt : (⟨text.toArray⟩ : Str).length = text.length := by show text.toArray.size = _; rw [List.size_toArray]
          rw [elt]
          by_cases h3 : text.length ≤ 3000
          · obtain ⟨tks, r, hs, hw, hout⟩ := text_due hok.1 (kb_mono hok.2.1 hR.1) (by have := hok.2.2; omega) hpr hJ h3
            have hdk := due_ok (ts := ts) (tl := text.length) (pl := pl) (tg := tg) (jn_pl hJ).1
            have hmk := msgs_ok _ hdk.1
            refine ite_t (by omega) ⟨by rw [elt]; omega, tks, r, hs, hw, by rw [hout]; exact hmk.1, by rw [hout]; exact hmk.2, by rw [hout]; have := hdk.2; omega, ?_⟩
            rw [hout]
            refine ⟨ts, pl, tg, rfl, rfl, rfl, by have := hok.2.2; omega, (jn_more hJ).2.1, hok.1, ?_⟩
            rw [elt]
            refine ⟨rfl, ⟨by simp, fun d hd => ?_⟩, true, rfl, ?_⟩
            · simp only [List.mem_cons, List.not_mem_nil, or_false] at hd
              rcases hd with rfl | rfl <;> trivial
            · exact ite_f (by decide) (hE _ _ ⟨⟨_, _, _, _, _, _, _, _, _, rfl⟩, rfl⟩)
          · refine ite_f (by omega) (hE _ _ ⟨⟨_, _, _, _, _, _, _, _, _, rfl⟩, rfl⟩)
    · obtain ⟨⟨a, b, c, d, e, f, g, h, i, rfl⟩, rfl⟩ := hI
      (walk_at "dl")
      exact hq _
  · exact h.elim
)
end
end K42
end

namespace K42
open PySem L2 DL
theorem exm_me {K : PySem.W.Frag} {S : Addr} (h1 : PySem.W.subIn K (.ref S) (.type "BaseException") = some true) (h2 : PySem.W.isClsIn K S = true) (h3 : PySem.W.typeIn K (.ref S) = some (.type "type")) (h4 : PySem.W.subIn K (.ref S) (.ref S) = some true) :
    PySem.W.exmOne K (.ref S) (.ref S) = some true := by
  have e1 : (PySem.W.subIn K (.ref S) (.type "BaseException") == some true) = true := by rw [h1] <;> rfl
  have e2 : ((PySem.W.clsIn K S).isSome && PySem.W.typeIn K (.ref S) == some (.type "type")) = true := by
    have q : (PySem.W.clsIn K S).isSome = true := h2
    rw [q, h3] <;> rfl
  show (if (PySem.W.subIn K (.ref S) (.type "BaseException") == some true) = true then (if ((PySem.W.clsIn K S).isSome && PySem.W.typeIn K (.ref S) == some (.type "type")) = true then PySem.W.subIn K (.ref S) (.ref S) else none) else none) = some true
  rw [if_pos e1, if_pos e2, h4]
theorem kit_sub {K : PySem.W.Frag} {C S : Addr} (h2 : PySem.W.isClsIn K S = true) (h3 : PySem.W.typeIn K (.ref S) = some (.type "type")) (h4 : PySem.W.subIn K (.ref C) (.ref S) = some true) : PySem.W.kitOne K (.ref C) (.ref S) = some true := by
  have e2 : ((PySem.W.clsIn K S).isSome && PySem.W.typeIn K (.ref S) == some (.type "type")) = true := by
    have q : (PySem.W.clsIn K S).isSome = true := h2
    rw [q, h3] <;> rfl
  unfold PySem.W.kitOne
  split
  · rfl
  · show (if ((PySem.W.clsIn K S).isSome && PySem.W.typeIn K (.ref S) == some (.type "type")) = true then PySem.W.subIn K (.ref C) (.ref S) else none) = some true
    rw [if_pos e2, h4]
theorem sp_law {K : PySem.W.Frag} (H : Hp) (a : Addr) (ns : List Int) (hl : ns.length ≤ 63) (hS : SqL K H a (ns.map V.int)) : spD K C_law [.ref a] H (fun v _ => v = .bl true) fun _ _ _ => False := by
  have eh : DL.hide H (fun _ => none) = H := by funext b; rfl
  refine ⟨[.scr ns], fun _ => none, fun d _ => d = .bl true, ?_, (fun _ _ h => by cases h), ⟨hl, fun _ => rfl⟩, fun d _ v _ hd _ r => ?_⟩
  · rw [eh]; exact .cons (.scr hS) .nil
  · subst hd; cases r; rfl
theorem all_mk {l : PySem.W.OpenLaw} {w : World} {K : PySem.W.Frag} {h : Heap} {mg : Str → Option Value} {fa : Addr} (X : K.In h) (G : h.Ns mainGlobals mg) (hfa : mg "law" = some (.ref fa))
    {C_Reader C_TextError C_SnapError fI fS : Addr}
    {nm q : Str} {N : Addr} {bs : List Value} {sn : List Str} {sub : List Value} {ab : Bool} {col : Option Bool} {dd : Option Addr} {m0 m1 m2 m3 m5 : Option Value}
    {od_I an_I : Option Addr} {sl_I : Array (Option Value)} {oc_I kV_I dc_I pm_I cd_I ct_I : Value}
    {od_S an_S : Option Addr} {sl_S : Array (Option Value)} {oc_S kV_S dc_S pm_S cd_S ct_S : Value}
    {a_Reader___init__ : Addr} {od_Reader___init__ an_Reader___init__ : Option Addr} {sl_Reader___init__ : Array (Option Value)} {oc_Reader___init__ kV_Reader___init__ dc_Reader___init__ pm_Reader___init__ cd_Reader___init__ ct_Reader___init__ : Value}
    {a_Reader_sees : Addr} {od_Reader_sees an_Reader_sees : Option Addr} {sl_Reader_sees : Array (Option Value)} {oc_Reader_sees kV_Reader_sees dc_Reader_sees pm_Reader_sees cd_Reader_sees ct_Reader_sees : Value}
    {a_Reader_take : Addr} {od_Reader_take an_Reader_take : Option Addr} {sl_Reader_take : Array (Option Value)} {oc_Reader_take kV_Reader_take dc_Reader_take pm_Reader_take cd_Reader_take ct_Reader_take : Value}
    {a_number_of : Addr} {od_number_of an_number_of : Option Addr} {sl_number_of : Array (Option Value)} {oc_number_of kV_number_of dc_number_of pm_number_of cd_number_of ct_number_of : Value}
    {a_Reader_take_number : Addr} {od_Reader_take_number an_Reader_take_number : Option Addr} {sl_Reader_take_number : Array (Option Value)} {oc_Reader_take_number kV_Reader_take_number dc_Reader_take_number pm_Reader_take_number cd_Reader_take_number ct_Reader_take_number : Value}
    {a_Reader_sees_word : Addr} {od_Reader_sees_word an_Reader_sees_word : Option Addr} {sl_Reader_sees_word : Array (Option Value)} {oc_Reader_sees_word kV_Reader_sees_word dc_Reader_sees_word pm_Reader_sees_word cd_Reader_sees_word ct_Reader_sees_word : Value}
    {a_Reader_take_word : Addr} {od_Reader_take_word an_Reader_take_word : Option Addr} {sl_Reader_take_word : Array (Option Value)} {oc_Reader_take_word kV_Reader_take_word dc_Reader_take_word pm_Reader_take_word cd_Reader_take_word ct_Reader_take_word : Value}
    {a_Reader_sees_key : Addr} {od_Reader_sees_key an_Reader_sees_key : Option Addr} {sl_Reader_sees_key : Array (Option Value)} {oc_Reader_sees_key kV_Reader_sees_key dc_Reader_sees_key pm_Reader_sees_key cd_Reader_sees_key ct_Reader_sees_key : Value}
    {a_Reader_take_key : Addr} {od_Reader_take_key an_Reader_take_key : Option Addr} {sl_Reader_take_key : Array (Option Value)} {oc_Reader_take_key kV_Reader_take_key dc_Reader_take_key pm_Reader_take_key cd_Reader_take_key ct_Reader_take_key : Value}
    {a_Reader_take_keys : Addr} {od_Reader_take_keys an_Reader_take_keys : Option Addr} {sl_Reader_take_keys : Array (Option Value)} {oc_Reader_take_keys kV_Reader_take_keys dc_Reader_take_keys pm_Reader_take_keys cd_Reader_take_keys ct_Reader_take_keys : Value}
    {a_read_commit : Addr} {od_read_commit an_read_commit : Option Addr} {sl_read_commit : Array (Option Value)} {oc_read_commit kV_read_commit dc_read_commit pm_read_commit cd_read_commit ct_read_commit : Value}
    {a_read_times : Addr} {od_read_times an_read_times : Option Addr} {sl_read_times : Array (Option Value)} {oc_read_times kV_read_times dc_read_times pm_read_times cd_read_times ct_read_times : Value}
    {a_read_value : Addr} {od_read_value an_read_value : Option Addr} {sl_read_value : Array (Option Value)} {oc_read_value kV_read_value dc_read_value pm_read_value cd_read_value ct_read_value : Value}
    {a_read_piece : Addr} {od_read_piece an_read_piece : Option Addr} {sl_read_piece : Array (Option Value)} {oc_read_piece kV_read_piece dc_read_piece pm_read_piece cd_read_piece ct_read_piece : Value}
    {a_read_pieces : Addr} {od_read_pieces an_read_pieces : Option Addr} {sl_read_pieces : Array (Option Value)} {oc_read_pieces kV_read_pieces dc_read_pieces pm_read_pieces cd_read_pieces ct_read_pieces : Value}
    {a_end_of_run : Addr} {od_end_of_run an_end_of_run : Option Addr} {sl_end_of_run : Array (Option Value)} {oc_end_of_run kV_end_of_run dc_end_of_run pm_end_of_run cd_end_of_run ct_end_of_run : Value}
    {a_end_of_token : Addr} {od_end_of_token an_end_of_token : Option Addr} {sl_end_of_token : Array (Option Value)} {oc_end_of_token kV_end_of_token dc_end_of_token pm_end_of_token cd_end_of_token ct_end_of_token : Value}
    {a_kind_of : Addr} {od_kind_of an_kind_of : Option Addr} {sl_kind_of : Array (Option Value)} {oc_kind_of kV_kind_of dc_kind_of pm_kind_of cd_kind_of ct_kind_of : Value}
    {a_scan : Addr} {od_scan an_scan : Option Addr} {sl_scan : Array (Option Value)} {oc_scan kV_scan dc_scan pm_scan cd_scan ct_scan : Value}
    {a_parse_news : Addr} {od_parse_news an_parse_news : Option Addr} {sl_parse_news : Array (Option Value)} {oc_parse_news kV_parse_news dc_parse_news pm_parse_news cd_parse_news ct_parse_news : Value}
    {a__law_asked : Addr} {od__law_asked an__law_asked : Option Addr} {sl__law_asked : Array (Option Value)} {oc__law_asked kV__law_asked dc__law_asked pm__law_asked cd__law_asked ct__law_asked : Value}
    {a__law_next : Addr} {od__law_next an__law_next : Option Addr} {sl__law_next : Array (Option Value)} {oc__law_next kV__law_next dc__law_next pm__law_next cd__law_next ct__law_next : Value}
    {a__law_changed : Addr} {od__law_changed an__law_changed : Option Addr} {sl__law_changed : Array (Option Value)} {oc__law_changed kV__law_changed dc__law_changed pm__law_changed cd__law_changed ct__law_changed : Value}
    {a__law_draw : Addr} {od__law_draw an__law_draw : Option Addr} {sl__law_draw : Array (Option Value)} {oc__law_draw kV__law_draw dc__law_draw pm__law_draw cd__law_draw ct__law_draw : Value}
    {a__law_next_states : Addr} {od__law_next_states an__law_next_states : Option Addr} {sl__law_next_states : Array (Option Value)} {oc__law_next_states kV__law_next_states dc__law_next_states pm__law_next_states cd__law_next_states ct__law_next_states : Value}
    {a__law_start_of : Addr} {od__law_start_of an__law_start_of : Option Addr} {sl__law_start_of : Array (Option Value)} {oc__law_start_of kV__law_start_of dc__law_start_of pm__law_start_of cd__law_start_of ct__law_start_of : Value}
    {a__law_range_wrong : Addr} {od__law_range_wrong an__law_range_wrong : Option Addr} {sl__law_range_wrong : Array (Option Value)} {oc__law_range_wrong kV__law_range_wrong dc__law_range_wrong pm__law_range_wrong cd__law_range_wrong ct__law_range_wrong : Value}
    {a__law_due : Addr} {od__law_due an__law_due : Option Addr} {sl__law_due : Array (Option Value)} {oc__law_due kV__law_due dc__law_due pm__law_due cd__law_due ct__law_due : Value}
    {a__law_joined : Addr} {od__law_joined an__law_joined : Option Addr} {sl__law_joined : Array (Option Value)} {oc__law_joined kV__law_joined dc__law_joined pm__law_joined cd__law_joined ct__law_joined : Value}
    {a__law_commits : Addr} {od__law_commits an__law_commits : Option Addr} {sl__law_commits : Array (Option Value)} {oc__law_commits kV__law_commits dc__law_commits pm__law_commits cd__law_commits ct__law_commits : Value}
    {a__law_bent : Addr} {od__law_bent an__law_bent : Option Addr} {sl__law_bent : Array (Option Value)} {oc__law_bent kV__law_bent dc__law_bent pm__law_bent cd__law_bent ct__law_bent : Value}
    {a__law_told : Addr} {od__law_told an__law_told : Option Addr} {sl__law_told : Array (Option Value)} {oc__law_told kV__law_told dc__law_told pm__law_told cd__law_told ct__law_told : Value}
    {a__law_news : Addr} {od__law_news an__law_news : Option Addr} {sl__law_news : Array (Option Value)} {oc__law_news kV__law_news dc__law_news pm__law_news cd__law_news ct__law_news : Value}
    {a__law_same : Addr} {od__law_same an__law_same : Option Addr} {sl__law_same : Array (Option Value)} {oc__law_same kV__law_same dc__law_same pm__law_same cd__law_same ct__law_same : Value}
    {a__law_shelf : Addr} {od__law_shelf an__law_shelf : Option Addr} {sl__law_shelf : Array (Option Value)} {oc__law_shelf kV__law_shelf dc__law_shelf pm__law_shelf cd__law_shelf ct__law_shelf : Value}
    {a__law_tokens : Addr} {od__law_tokens an__law_tokens : Option Addr} {sl__law_tokens : Array (Option Value)} {oc__law_tokens kV__law_tokens dc__law_tokens pm__law_tokens cd__law_tokens ct__law_tokens : Value}
    {a_law : Addr} {od_law an_law : Option Addr} {sl_law : Array (Option Value)} {oc_law kV_law dc_law pm_law cd_law ct_law : Value}
    {t_BLANKS : Tok}
    {t_DIGITS : Tok}
    {t_END : Tok}
    {t_FARTHEST_VALUE : Tok}
    {t_GLUED : Tok}
    {t_LAST_VERSION : Tok}
    {t_LETTERS : Tok}
    {t_LONGEST_KEY : Tok}
    {t_MOST_PIECES : Tok}
    {t_MOST_WRITES : Tok}
    {t_NUMBER : Tok}
    {t_SEPARATOR : Tok}
    {t_WORD : Tok}
    (n_Reader : PySem.W.nsIn K mainGlobals "Reader" = some (some (.ref C_Reader)))
    (pg : PySem.W.plainGet K C_Reader Str.empty = true)
    (hd : PySem.W.hasDictIn K C_Reader = true)
    (po : PySem.W.plainOver K C_Reader = true)
    (sa : PySem.W.findIn K (.ref C_Reader) "__setattr__" = some (some (.builtin "object.__setattr__")))
    (makes : PySem.W.makesIn K C_Reader = true)
    (kc : PySem.W.keepIn K (.ref C_Reader) = true)
    (na_beyond : PySem.W.findIn K (.ref C_Reader) "beyond" = some none)
    (na_passed : PySem.W.findIn K (.ref C_Reader) "passed" = some none)
    (na_tokens : PySem.W.findIn K (.ref C_Reader) "tokens" = some none)
    (xC : PySem.W.nsIn K mainGlobals "TextError" = some (some (.ref C_TextError)))
    (xS : PySem.W.nsIn K mainGlobals "SnapError" = some (some (.ref C_SnapError)))
    (xL : K.lookup C_TextError = some (excClassObj nm q C_TextError N bs [.ref C_SnapError, .type "ValueError", .type "Exception", .type "BaseException", .type "object"] true sn sub ab col dd m0 m1 m2 m3 m5 "ValueError.__new__"))
    (xsa : PySem.W.findIn K (.ref C_TextError) "__setattr__" = some (some (.builtin "object.__setattr__")))
    (xga : PySem.W.findIn K (.ref C_TextError) "__getattribute__" = some (some (.builtin "BaseException.__getattribute__")))
    (xgg : PySem.W.findIn K (.ref C_TextError) "__getattr__" = some none)
    (xnP : PySem.W.findIn K (.ref C_TextError) "place" = some none)
    (xnM : PySem.W.findIn K (.ref C_TextError) "message" = some none)
    (xi : PySem.W.findIn K (.ref C_TextError) "__init__" = some (some (.ref fI)))
    (xti : PySem.W.typeIn K (.ref fI) = some (.type "function"))
    (xs : PySem.W.findIn K (.ref C_TextError) "__str__" = some (some (.ref fS)))
    (xts : PySem.W.isFn K (.ref fS) = true)
    (xkC : PySem.W.keepIn K (.ref C_TextError) = true)
    (xeC : PySem.W.subIn K (.ref C_TextError) (.type "BaseException") = some true)
    (xtC : PySem.W.typeIn K (.ref C_TextError) = some (.type "type"))
    (xhC : PySem.W.hasDictIn K C_TextError = true)
    (xiC : PySem.W.isClsIn K C_TextError = true)
    (xsC : PySem.W.subIn K (.ref C_TextError) (.ref C_TextError) = some true)
    (xiS : PySem.W.isClsIn K C_SnapError = true)
    (xtS : PySem.W.typeIn K (.ref C_SnapError) = some (.type "type"))
    (xsS : PySem.W.subIn K (.ref C_TextError) (.ref C_SnapError) = some true)
    (xaC : PySem.W.findIn K (.ref C_TextError) "__class__" = some (some (.builtin "object.__class__")))
    (xsp : PySem.W.specialIn K (.builtin "object.__class__") "__get__" = some (some (.builtin "getset_descriptor.__get__")))
    (xtk : PySem.W.takesIn K (.builtin "object.__class__") = some true)
    (xmo : PySem.W.mroIn K C_TextError (.type "object") = some true)
    (l_I : K.lookup fI = some ⟨oc_I, od_I, .func (PySem.W.fnOf "__init__" "TextError.__init__" (defArgs s_TextError___init__) (defBody s_TextError___init__) (defScope s_TextError___init__) .none kV_I dc_I pm_I an_I cd_I ct_I), sl_I⟩)
    (c_I : PySem.W.codeIn K cd_I "TextError.__init__" = true)
    (k_I : PySem.W.keepIn K (.ref fI) = true)
    (l_S : K.lookup fS = some ⟨oc_S, od_S, .func (PySem.W.fnOf "__str__" "TextError.__str__" (defArgs s_TextError___str__) (defBody s_TextError___str__) (defScope s_TextError___str__) .none kV_S dc_S pm_S an_S cd_S ct_S), sl_S⟩)
    (c_S : PySem.W.codeIn K cd_S "TextError.__str__" = true)
    (k_S : PySem.W.keepIn K (.ref fS) = true)
    (n_Reader___init__ : PySem.W.findIn K (.ref C_Reader) "__init__" = some (some (.ref a_Reader___init__)))
    (i_Reader___init__ : PySem.W.isFn K (.ref a_Reader___init__) = true)
    (l_Reader___init__ : K.lookup a_Reader___init__ = some ⟨oc_Reader___init__, od_Reader___init__, .func (PySem.W.fnOf "__init__" "Reader.__init__" (defArgs s_Reader___init__) (defBody s_Reader___init__) (defScope s_Reader___init__) .none kV_Reader___init__ dc_Reader___init__ pm_Reader___init__ an_Reader___init__ cd_Reader___init__ ct_Reader___init__), sl_Reader___init__⟩)
    (c_Reader___init__ : PySem.W.codeIn K cd_Reader___init__ "Reader.__init__" = true)
    (k_Reader___init__ : PySem.W.keepIn K (.ref a_Reader___init__) = true)
    (n_Reader_sees : PySem.W.findIn K (.ref C_Reader) "sees" = some (some (.ref a_Reader_sees)))
    (i_Reader_sees : PySem.W.isFn K (.ref a_Reader_sees) = true)
    (l_Reader_sees : K.lookup a_Reader_sees = some ⟨oc_Reader_sees, od_Reader_sees, .func (PySem.W.fnOf "sees" "Reader.sees" (defArgs s_Reader_sees) (defBody s_Reader_sees) (defScope s_Reader_sees) .none kV_Reader_sees dc_Reader_sees pm_Reader_sees an_Reader_sees cd_Reader_sees ct_Reader_sees), sl_Reader_sees⟩)
    (c_Reader_sees : PySem.W.codeIn K cd_Reader_sees "Reader.sees" = true)
    (k_Reader_sees : PySem.W.keepIn K (.ref a_Reader_sees) = true)
    (n_Reader_take : PySem.W.findIn K (.ref C_Reader) "take" = some (some (.ref a_Reader_take)))
    (i_Reader_take : PySem.W.isFn K (.ref a_Reader_take) = true)
    (l_Reader_take : K.lookup a_Reader_take = some ⟨oc_Reader_take, od_Reader_take, .func (PySem.W.fnOf "take" "Reader.take" (defArgs s_Reader_take) (defBody s_Reader_take) (defScope s_Reader_take) .none kV_Reader_take dc_Reader_take pm_Reader_take an_Reader_take cd_Reader_take ct_Reader_take), sl_Reader_take⟩)
    (c_Reader_take : PySem.W.codeIn K cd_Reader_take "Reader.take" = true)
    (k_Reader_take : PySem.W.keepIn K (.ref a_Reader_take) = true)
    (n_number_of : PySem.W.nsIn K mainGlobals "number_of" = some (some (.ref a_number_of)))
    (l_number_of : K.lookup a_number_of = some ⟨oc_number_of, od_number_of, .func (PySem.W.fnOf "number_of" "number_of" (defArgs s_number_of) (defBody s_number_of) (defScope s_number_of) .none kV_number_of dc_number_of pm_number_of an_number_of cd_number_of ct_number_of), sl_number_of⟩)
    (c_number_of : PySem.W.codeIn K cd_number_of "number_of" = true)
    (k_number_of : PySem.W.keepIn K (.ref a_number_of) = true)
    (n_Reader_take_number : PySem.W.findIn K (.ref C_Reader) "take_number" = some (some (.ref a_Reader_take_number)))
    (i_Reader_take_number : PySem.W.isFn K (.ref a_Reader_take_number) = true)
    (l_Reader_take_number : K.lookup a_Reader_take_number = some ⟨oc_Reader_take_number, od_Reader_take_number, .func (PySem.W.fnOf "take_number" "Reader.take_number" (defArgs s_Reader_take_number) (defBody s_Reader_take_number) (defScope s_Reader_take_number) .none kV_Reader_take_number dc_Reader_take_number pm_Reader_take_number an_Reader_take_number cd_Reader_take_number ct_Reader_take_number), sl_Reader_take_number⟩)
    (c_Reader_take_number : PySem.W.codeIn K cd_Reader_take_number "Reader.take_number" = true)
    (k_Reader_take_number : PySem.W.keepIn K (.ref a_Reader_take_number) = true)
    (n_Reader_sees_word : PySem.W.findIn K (.ref C_Reader) "sees_word" = some (some (.ref a_Reader_sees_word)))
    (i_Reader_sees_word : PySem.W.isFn K (.ref a_Reader_sees_word) = true)
    (l_Reader_sees_word : K.lookup a_Reader_sees_word = some ⟨oc_Reader_sees_word, od_Reader_sees_word, .func (PySem.W.fnOf "sees_word" "Reader.sees_word" (defArgs s_Reader_sees_word) (defBody s_Reader_sees_word) (defScope s_Reader_sees_word) .none kV_Reader_sees_word dc_Reader_sees_word pm_Reader_sees_word an_Reader_sees_word cd_Reader_sees_word ct_Reader_sees_word), sl_Reader_sees_word⟩)
    (c_Reader_sees_word : PySem.W.codeIn K cd_Reader_sees_word "Reader.sees_word" = true)
    (k_Reader_sees_word : PySem.W.keepIn K (.ref a_Reader_sees_word) = true)
    (n_Reader_take_word : PySem.W.findIn K (.ref C_Reader) "take_word" = some (some (.ref a_Reader_take_word)))
    (i_Reader_take_word : PySem.W.isFn K (.ref a_Reader_take_word) = true)
    (l_Reader_take_word : K.lookup a_Reader_take_word = some ⟨oc_Reader_take_word, od_Reader_take_word, .func (PySem.W.fnOf "take_word" "Reader.take_word" (defArgs s_Reader_take_word) (defBody s_Reader_take_word) (defScope s_Reader_take_word) .none kV_Reader_take_word dc_Reader_take_word pm_Reader_take_word an_Reader_take_word cd_Reader_take_word ct_Reader_take_word), sl_Reader_take_word⟩)
    (c_Reader_take_word : PySem.W.codeIn K cd_Reader_take_word "Reader.take_word" = true)
    (k_Reader_take_word : PySem.W.keepIn K (.ref a_Reader_take_word) = true)
    (n_Reader_sees_key : PySem.W.findIn K (.ref C_Reader) "sees_key" = some (some (.ref a_Reader_sees_key)))
    (i_Reader_sees_key : PySem.W.isFn K (.ref a_Reader_sees_key) = true)
    (l_Reader_sees_key : K.lookup a_Reader_sees_key = some ⟨oc_Reader_sees_key, od_Reader_sees_key, .func (PySem.W.fnOf "sees_key" "Reader.sees_key" (defArgs s_Reader_sees_key) (defBody s_Reader_sees_key) (defScope s_Reader_sees_key) .none kV_Reader_sees_key dc_Reader_sees_key pm_Reader_sees_key an_Reader_sees_key cd_Reader_sees_key ct_Reader_sees_key), sl_Reader_sees_key⟩)
    (c_Reader_sees_key : PySem.W.codeIn K cd_Reader_sees_key "Reader.sees_key" = true)
    (k_Reader_sees_key : PySem.W.keepIn K (.ref a_Reader_sees_key) = true)
    (n_Reader_take_key : PySem.W.findIn K (.ref C_Reader) "take_key" = some (some (.ref a_Reader_take_key)))
    (i_Reader_take_key : PySem.W.isFn K (.ref a_Reader_take_key) = true)
    (l_Reader_take_key : K.lookup a_Reader_take_key = some ⟨oc_Reader_take_key, od_Reader_take_key, .func (PySem.W.fnOf "take_key" "Reader.take_key" (defArgs s_Reader_take_key) (defBody s_Reader_take_key) (defScope s_Reader_take_key) .none kV_Reader_take_key dc_Reader_take_key pm_Reader_take_key an_Reader_take_key cd_Reader_take_key ct_Reader_take_key), sl_Reader_take_key⟩)
    (c_Reader_take_key : PySem.W.codeIn K cd_Reader_take_key "Reader.take_key" = true)
    (k_Reader_take_key : PySem.W.keepIn K (.ref a_Reader_take_key) = true)
    (n_Reader_take_keys : PySem.W.findIn K (.ref C_Reader) "take_keys" = some (some (.ref a_Reader_take_keys)))
    (i_Reader_take_keys : PySem.W.isFn K (.ref a_Reader_take_keys) = true)
    (l_Reader_take_keys : K.lookup a_Reader_take_keys = some ⟨oc_Reader_take_keys, od_Reader_take_keys, .func (PySem.W.fnOf "take_keys" "Reader.take_keys" (defArgs s_Reader_take_keys) (defBody s_Reader_take_keys) (defScope s_Reader_take_keys) .none kV_Reader_take_keys dc_Reader_take_keys pm_Reader_take_keys an_Reader_take_keys cd_Reader_take_keys ct_Reader_take_keys), sl_Reader_take_keys⟩)
    (c_Reader_take_keys : PySem.W.codeIn K cd_Reader_take_keys "Reader.take_keys" = true)
    (k_Reader_take_keys : PySem.W.keepIn K (.ref a_Reader_take_keys) = true)
    (n_read_commit : PySem.W.nsIn K mainGlobals "read_commit" = some (some (.ref a_read_commit)))
    (l_read_commit : K.lookup a_read_commit = some ⟨oc_read_commit, od_read_commit, .func (PySem.W.fnOf "read_commit" "read_commit" (defArgs s_read_commit) (defBody s_read_commit) (defScope s_read_commit) .none kV_read_commit dc_read_commit pm_read_commit an_read_commit cd_read_commit ct_read_commit), sl_read_commit⟩)
    (c_read_commit : PySem.W.codeIn K cd_read_commit "read_commit" = true)
    (k_read_commit : PySem.W.keepIn K (.ref a_read_commit) = true)
    (n_read_times : PySem.W.nsIn K mainGlobals "read_times" = some (some (.ref a_read_times)))
    (l_read_times : K.lookup a_read_times = some ⟨oc_read_times, od_read_times, .func (PySem.W.fnOf "read_times" "read_times" (defArgs s_read_times) (defBody s_read_times) (defScope s_read_times) .none kV_read_times dc_read_times pm_read_times an_read_times cd_read_times ct_read_times), sl_read_times⟩)
    (c_read_times : PySem.W.codeIn K cd_read_times "read_times" = true)
    (k_read_times : PySem.W.keepIn K (.ref a_read_times) = true)
    (n_read_value : PySem.W.nsIn K mainGlobals "read_value" = some (some (.ref a_read_value)))
    (l_read_value : K.lookup a_read_value = some ⟨oc_read_value, od_read_value, .func (PySem.W.fnOf "read_value" "read_value" (defArgs s_read_value) (defBody s_read_value) (defScope s_read_value) .none kV_read_value dc_read_value pm_read_value an_read_value cd_read_value ct_read_value), sl_read_value⟩)
    (c_read_value : PySem.W.codeIn K cd_read_value "read_value" = true)
    (k_read_value : PySem.W.keepIn K (.ref a_read_value) = true)
    (n_read_piece : PySem.W.nsIn K mainGlobals "read_piece" = some (some (.ref a_read_piece)))
    (l_read_piece : K.lookup a_read_piece = some ⟨oc_read_piece, od_read_piece, .func (PySem.W.fnOf "read_piece" "read_piece" (defArgs s_read_piece) (defBody s_read_piece) (defScope s_read_piece) .none kV_read_piece dc_read_piece pm_read_piece an_read_piece cd_read_piece ct_read_piece), sl_read_piece⟩)
    (c_read_piece : PySem.W.codeIn K cd_read_piece "read_piece" = true)
    (k_read_piece : PySem.W.keepIn K (.ref a_read_piece) = true)
    (n_read_pieces : PySem.W.nsIn K mainGlobals "read_pieces" = some (some (.ref a_read_pieces)))
    (l_read_pieces : K.lookup a_read_pieces = some ⟨oc_read_pieces, od_read_pieces, .func (PySem.W.fnOf "read_pieces" "read_pieces" (defArgs s_read_pieces) (defBody s_read_pieces) (defScope s_read_pieces) .none kV_read_pieces dc_read_pieces pm_read_pieces an_read_pieces cd_read_pieces ct_read_pieces), sl_read_pieces⟩)
    (c_read_pieces : PySem.W.codeIn K cd_read_pieces "read_pieces" = true)
    (k_read_pieces : PySem.W.keepIn K (.ref a_read_pieces) = true)
    (n_end_of_run : PySem.W.nsIn K mainGlobals "end_of_run" = some (some (.ref a_end_of_run)))
    (l_end_of_run : K.lookup a_end_of_run = some ⟨oc_end_of_run, od_end_of_run, .func (PySem.W.fnOf "end_of_run" "end_of_run" (defArgs s_end_of_run) (defBody s_end_of_run) (defScope s_end_of_run) .none kV_end_of_run dc_end_of_run pm_end_of_run an_end_of_run cd_end_of_run ct_end_of_run), sl_end_of_run⟩)
    (c_end_of_run : PySem.W.codeIn K cd_end_of_run "end_of_run" = true)
    (k_end_of_run : PySem.W.keepIn K (.ref a_end_of_run) = true)
    (n_end_of_token : PySem.W.nsIn K mainGlobals "end_of_token" = some (some (.ref a_end_of_token)))
    (l_end_of_token : K.lookup a_end_of_token = some ⟨oc_end_of_token, od_end_of_token, .func (PySem.W.fnOf "end_of_token" "end_of_token" (defArgs s_end_of_token) (defBody s_end_of_token) (defScope s_end_of_token) .none kV_end_of_token dc_end_of_token pm_end_of_token an_end_of_token cd_end_of_token ct_end_of_token), sl_end_of_token⟩)
    (c_end_of_token : PySem.W.codeIn K cd_end_of_token "end_of_token" = true)
    (k_end_of_token : PySem.W.keepIn K (.ref a_end_of_token) = true)
    (n_kind_of : PySem.W.nsIn K mainGlobals "kind_of" = some (some (.ref a_kind_of)))
    (l_kind_of : K.lookup a_kind_of = some ⟨oc_kind_of, od_kind_of, .func (PySem.W.fnOf "kind_of" "kind_of" (defArgs s_kind_of) (defBody s_kind_of) (defScope s_kind_of) .none kV_kind_of dc_kind_of pm_kind_of an_kind_of cd_kind_of ct_kind_of), sl_kind_of⟩)
    (c_kind_of : PySem.W.codeIn K cd_kind_of "kind_of" = true)
    (k_kind_of : PySem.W.keepIn K (.ref a_kind_of) = true)
    (n_scan : PySem.W.nsIn K mainGlobals "scan" = some (some (.ref a_scan)))
    (l_scan : K.lookup a_scan = some ⟨oc_scan, od_scan, .func (PySem.W.fnOf "scan" "scan" (defArgs s_scan) (defBody s_scan) (defScope s_scan) .none kV_scan dc_scan pm_scan an_scan cd_scan ct_scan), sl_scan⟩)
    (c_scan : PySem.W.codeIn K cd_scan "scan" = true)
    (k_scan : PySem.W.keepIn K (.ref a_scan) = true)
    (n_parse_news : PySem.W.nsIn K mainGlobals "parse_news" = some (some (.ref a_parse_news)))
    (l_parse_news : K.lookup a_parse_news = some ⟨oc_parse_news, od_parse_news, .func (PySem.W.fnOf "parse_news" "parse_news" (defArgs s_parse_news) (defBody s_parse_news) (defScope s_parse_news) .none kV_parse_news dc_parse_news pm_parse_news an_parse_news cd_parse_news ct_parse_news), sl_parse_news⟩)
    (c_parse_news : PySem.W.codeIn K cd_parse_news "parse_news" = true)
    (k_parse_news : PySem.W.keepIn K (.ref a_parse_news) = true)
    (n__law_asked : PySem.W.nsIn K mainGlobals "_law_asked" = some (some (.ref a__law_asked)))
    (l__law_asked : K.lookup a__law_asked = some ⟨oc__law_asked, od__law_asked, .func (PySem.W.fnOf "_law_asked" "_law_asked" (defArgs s__law_asked) (defBody s__law_asked) (defScope s__law_asked) .none kV__law_asked dc__law_asked pm__law_asked an__law_asked cd__law_asked ct__law_asked), sl__law_asked⟩)
    (c__law_asked : PySem.W.codeIn K cd__law_asked "_law_asked" = true)
    (k__law_asked : PySem.W.keepIn K (.ref a__law_asked) = true)
    (n__law_next : PySem.W.nsIn K mainGlobals "_law_next" = some (some (.ref a__law_next)))
    (l__law_next : K.lookup a__law_next = some ⟨oc__law_next, od__law_next, .func (PySem.W.fnOf "_law_next" "_law_next" (defArgs s__law_next) (defBody s__law_next) (defScope s__law_next) .none kV__law_next dc__law_next pm__law_next an__law_next cd__law_next ct__law_next), sl__law_next⟩)
    (c__law_next : PySem.W.codeIn K cd__law_next "_law_next" = true)
    (k__law_next : PySem.W.keepIn K (.ref a__law_next) = true)
    (n__law_changed : PySem.W.nsIn K mainGlobals "_law_changed" = some (some (.ref a__law_changed)))
    (l__law_changed : K.lookup a__law_changed = some ⟨oc__law_changed, od__law_changed, .func (PySem.W.fnOf "_law_changed" "_law_changed" (defArgs s__law_changed) (defBody s__law_changed) (defScope s__law_changed) .none kV__law_changed dc__law_changed pm__law_changed an__law_changed cd__law_changed ct__law_changed), sl__law_changed⟩)
    (c__law_changed : PySem.W.codeIn K cd__law_changed "_law_changed" = true)
    (k__law_changed : PySem.W.keepIn K (.ref a__law_changed) = true)
    (n__law_draw : PySem.W.nsIn K mainGlobals "_law_draw" = some (some (.ref a__law_draw)))
    (l__law_draw : K.lookup a__law_draw = some ⟨oc__law_draw, od__law_draw, .func (PySem.W.fnOf "_law_draw" "_law_draw" (defArgs s__law_draw) (defBody s__law_draw) (defScope s__law_draw) .none kV__law_draw dc__law_draw pm__law_draw an__law_draw cd__law_draw ct__law_draw), sl__law_draw⟩)
    (c__law_draw : PySem.W.codeIn K cd__law_draw "_law_draw" = true)
    (k__law_draw : PySem.W.keepIn K (.ref a__law_draw) = true)
    (n__law_next_states : PySem.W.nsIn K mainGlobals "_law_next_states" = some (some (.ref a__law_next_states)))
    (l__law_next_states : K.lookup a__law_next_states = some ⟨oc__law_next_states, od__law_next_states, .func (PySem.W.fnOf "_law_next_states" "_law_next_states" (defArgs s__law_next_states) (defBody s__law_next_states) (defScope s__law_next_states) .none kV__law_next_states dc__law_next_states pm__law_next_states an__law_next_states cd__law_next_states ct__law_next_states), sl__law_next_states⟩)
    (c__law_next_states : PySem.W.codeIn K cd__law_next_states "_law_next_states" = true)
    (k__law_next_states : PySem.W.keepIn K (.ref a__law_next_states) = true)
    (n__law_start_of : PySem.W.nsIn K mainGlobals "_law_start_of" = some (some (.ref a__law_start_of)))
    (l__law_start_of : K.lookup a__law_start_of = some ⟨oc__law_start_of, od__law_start_of, .func (PySem.W.fnOf "_law_start_of" "_law_start_of" (defArgs s__law_start_of) (defBody s__law_start_of) (defScope s__law_start_of) .none kV__law_start_of dc__law_start_of pm__law_start_of an__law_start_of cd__law_start_of ct__law_start_of), sl__law_start_of⟩)
    (c__law_start_of : PySem.W.codeIn K cd__law_start_of "_law_start_of" = true)
    (k__law_start_of : PySem.W.keepIn K (.ref a__law_start_of) = true)
    (n__law_range_wrong : PySem.W.nsIn K mainGlobals "_law_range_wrong" = some (some (.ref a__law_range_wrong)))
    (l__law_range_wrong : K.lookup a__law_range_wrong = some ⟨oc__law_range_wrong, od__law_range_wrong, .func (PySem.W.fnOf "_law_range_wrong" "_law_range_wrong" (defArgs s__law_range_wrong) (defBody s__law_range_wrong) (defScope s__law_range_wrong) .none kV__law_range_wrong dc__law_range_wrong pm__law_range_wrong an__law_range_wrong cd__law_range_wrong ct__law_range_wrong), sl__law_range_wrong⟩)
    (c__law_range_wrong : PySem.W.codeIn K cd__law_range_wrong "_law_range_wrong" = true)
    (k__law_range_wrong : PySem.W.keepIn K (.ref a__law_range_wrong) = true)
    (n__law_due : PySem.W.nsIn K mainGlobals "_law_due" = some (some (.ref a__law_due)))
    (l__law_due : K.lookup a__law_due = some ⟨oc__law_due, od__law_due, .func (PySem.W.fnOf "_law_due" "_law_due" (defArgs s__law_due) (defBody s__law_due) (defScope s__law_due) .none kV__law_due dc__law_due pm__law_due an__law_due cd__law_due ct__law_due), sl__law_due⟩)
    (c__law_due : PySem.W.codeIn K cd__law_due "_law_due" = true)
    (k__law_due : PySem.W.keepIn K (.ref a__law_due) = true)
    (n__law_joined : PySem.W.nsIn K mainGlobals "_law_joined" = some (some (.ref a__law_joined)))
    (l__law_joined : K.lookup a__law_joined = some ⟨oc__law_joined, od__law_joined, .func (PySem.W.fnOf "_law_joined" "_law_joined" (defArgs s__law_joined) (defBody s__law_joined) (defScope s__law_joined) .none kV__law_joined dc__law_joined pm__law_joined an__law_joined cd__law_joined ct__law_joined), sl__law_joined⟩)
    (c__law_joined : PySem.W.codeIn K cd__law_joined "_law_joined" = true)
    (k__law_joined : PySem.W.keepIn K (.ref a__law_joined) = true)
    (n__law_commits : PySem.W.nsIn K mainGlobals "_law_commits" = some (some (.ref a__law_commits)))
    (l__law_commits : K.lookup a__law_commits = some ⟨oc__law_commits, od__law_commits, .func (PySem.W.fnOf "_law_commits" "_law_commits" (defArgs s__law_commits) (defBody s__law_commits) (defScope s__law_commits) .none kV__law_commits dc__law_commits pm__law_commits an__law_commits cd__law_commits ct__law_commits), sl__law_commits⟩)
    (c__law_commits : PySem.W.codeIn K cd__law_commits "_law_commits" = true)
    (k__law_commits : PySem.W.keepIn K (.ref a__law_commits) = true)
    (n__law_bent : PySem.W.nsIn K mainGlobals "_law_bent" = some (some (.ref a__law_bent)))
    (l__law_bent : K.lookup a__law_bent = some ⟨oc__law_bent, od__law_bent, .func (PySem.W.fnOf "_law_bent" "_law_bent" (defArgs s__law_bent) (defBody s__law_bent) (defScope s__law_bent) .none kV__law_bent dc__law_bent pm__law_bent an__law_bent cd__law_bent ct__law_bent), sl__law_bent⟩)
    (c__law_bent : PySem.W.codeIn K cd__law_bent "_law_bent" = true)
    (k__law_bent : PySem.W.keepIn K (.ref a__law_bent) = true)
    (n__law_told : PySem.W.nsIn K mainGlobals "_law_told" = some (some (.ref a__law_told)))
    (l__law_told : K.lookup a__law_told = some ⟨oc__law_told, od__law_told, .func (PySem.W.fnOf "_law_told" "_law_told" (defArgs s__law_told) (defBody s__law_told) (defScope s__law_told) .none kV__law_told dc__law_told pm__law_told an__law_told cd__law_told ct__law_told), sl__law_told⟩)
    (c__law_told : PySem.W.codeIn K cd__law_told "_law_told" = true)
    (k__law_told : PySem.W.keepIn K (.ref a__law_told) = true)
    (n__law_news : PySem.W.nsIn K mainGlobals "_law_news" = some (some (.ref a__law_news)))
    (l__law_news : K.lookup a__law_news = some ⟨oc__law_news, od__law_news, .func (PySem.W.fnOf "_law_news" "_law_news" (defArgs s__law_news) (defBody s__law_news) (defScope s__law_news) .none kV__law_news dc__law_news pm__law_news an__law_news cd__law_news ct__law_news), sl__law_news⟩)
    (c__law_news : PySem.W.codeIn K cd__law_news "_law_news" = true)
    (k__law_news : PySem.W.keepIn K (.ref a__law_news) = true)
    (n__law_same : PySem.W.nsIn K mainGlobals "_law_same" = some (some (.ref a__law_same)))
    (l__law_same : K.lookup a__law_same = some ⟨oc__law_same, od__law_same, .func (PySem.W.fnOf "_law_same" "_law_same" (defArgs s__law_same) (defBody s__law_same) (defScope s__law_same) .none kV__law_same dc__law_same pm__law_same an__law_same cd__law_same ct__law_same), sl__law_same⟩)
    (c__law_same : PySem.W.codeIn K cd__law_same "_law_same" = true)
    (k__law_same : PySem.W.keepIn K (.ref a__law_same) = true)
    (n__law_shelf : PySem.W.nsIn K mainGlobals "_law_shelf" = some (some (.ref a__law_shelf)))
    (l__law_shelf : K.lookup a__law_shelf = some ⟨oc__law_shelf, od__law_shelf, .func (PySem.W.fnOf "_law_shelf" "_law_shelf" (defArgs s__law_shelf) (defBody s__law_shelf) (defScope s__law_shelf) .none kV__law_shelf dc__law_shelf pm__law_shelf an__law_shelf cd__law_shelf ct__law_shelf), sl__law_shelf⟩)
    (c__law_shelf : PySem.W.codeIn K cd__law_shelf "_law_shelf" = true)
    (k__law_shelf : PySem.W.keepIn K (.ref a__law_shelf) = true)
    (n__law_tokens : PySem.W.nsIn K mainGlobals "_law_tokens" = some (some (.ref a__law_tokens)))
    (l__law_tokens : K.lookup a__law_tokens = some ⟨oc__law_tokens, od__law_tokens, .func (PySem.W.fnOf "_law_tokens" "_law_tokens" (defArgs s__law_tokens) (defBody s__law_tokens) (defScope s__law_tokens) .none kV__law_tokens dc__law_tokens pm__law_tokens an__law_tokens cd__law_tokens ct__law_tokens), sl__law_tokens⟩)
    (c__law_tokens : PySem.W.codeIn K cd__law_tokens "_law_tokens" = true)
    (k__law_tokens : PySem.W.keepIn K (.ref a__law_tokens) = true)
    (n_law : PySem.W.nsIn K mainGlobals "law" = some (some (.ref a_law)))
    (l_law : K.lookup a_law = some ⟨oc_law, od_law, .func (PySem.W.fnOf "law" "law" (defArgs s_law) (defBody s_law) (defScope s_law) .none kV_law dc_law pm_law an_law cd_law ct_law), sl_law⟩)
    (c_law : PySem.W.codeIn K cd_law "law" = true)
    (k_law : PySem.W.keepIn K (.ref a_law) = true)
    (z_abs : PySem.W.nsIn K mainGlobals "abs" = some none)
    (z_all : PySem.W.nsIn K mainGlobals "all" = some none)
    (z_bool : PySem.W.nsIn K mainGlobals "bool" = some none)
    (z_int : PySem.W.nsIn K mainGlobals "int" = some none)
    (z_isinstance : PySem.W.nsIn K mainGlobals "isinstance" = some none)
    (z_len : PySem.W.nsIn K mainGlobals "len" = some none)
    (z_list : PySem.W.nsIn K mainGlobals "list" = some none)
    (z_max : PySem.W.nsIn K mainGlobals "max" = some none)
    (z_range : PySem.W.nsIn K mainGlobals "range" = some none)
    (z_set : PySem.W.nsIn K mainGlobals "set" = some none)
    (z_sorted : PySem.W.nsIn K mainGlobals "sorted" = some none)
    (z_str : PySem.W.nsIn K mainGlobals "str" = some none)
    (z_tuple : PySem.W.nsIn K mainGlobals "tuple" = some none)
    (g_BLANKS : PySem.W.nsIn K mainGlobals "BLANKS" = some (some (.str " \n" t_BLANKS)))
    (g_DIGITS : PySem.W.nsIn K mainGlobals "DIGITS" = some (some (.str "0123456789" t_DIGITS)))
    (g_END : PySem.W.nsIn K mainGlobals "END" = some (some (.str "end" t_END)))
    (g_FARTHEST_VALUE : PySem.W.nsIn K mainGlobals "FARTHEST_VALUE" = some (some (.int 1000000 t_FARTHEST_VALUE)))
    (g_GLUED : PySem.W.nsIn K mainGlobals "GLUED" = some (some (.str "glued" t_GLUED)))
    (g_LAST_VERSION : PySem.W.nsIn K mainGlobals "LAST_VERSION" = some (some (.int 20 t_LAST_VERSION)))
    (g_LETTERS : PySem.W.nsIn K mainGlobals "LETTERS" = some (some (.str "abcdefghijklmnopqrstuvwxyz" t_LETTERS)))
    (g_LONGEST_KEY : PySem.W.nsIn K mainGlobals "LONGEST_KEY" = some (some (.int 8 t_LONGEST_KEY)))
    (g_MOST_PIECES : PySem.W.nsIn K mainGlobals "MOST_PIECES" = some (some (.int 40 t_MOST_PIECES)))
    (g_MOST_WRITES : PySem.W.nsIn K mainGlobals "MOST_WRITES" = some (some (.int 20 t_MOST_WRITES)))
    (g_NUMBER : PySem.W.nsIn K mainGlobals "NUMBER" = some (some (.str "number" t_NUMBER)))
    (g_SEPARATOR : PySem.W.nsIn K mainGlobals "SEPARATOR" = some (some (.str "separator" t_SEPARATOR)))
    (g_WORD : PySem.W.nsIn K mainGlobals "WORD" = some (some (.str "word" t_WORD)))
    : ∃ fd : FuncData, (∀ (s : Shared) (v : Value), BindsTo s fd ⟨[v], []⟩ [("script", v)]) ∧ ∀ base : Heap, K.In base → base.Ns mainGlobals mg → FnOk l.prog w K mg base CX0 11 fa fd ["script"] (spD K C_law) := by
  have e := hfa.symm.trans (PySem.W.mg_of X G n_law)
  cases e
  have F_I := fun_mk (st := s_TextError___init__) l_I c_I k_I
  have v_I := F_I.binds (ps := ["self", "place", "message"]) fun _ _ _ _ _ _ us hl => match us, hl with | [_, _, _], _ => rfl
  have F_S := fun_mk (st := s_TextError___str__) l_S c_S k_S
  have v_S := F_S.binds (ps := ["self"]) fun _ _ _ _ _ _ us hl => match us, hl with | [_], _ => rfl
  have etx : ETx K mg C_TextError C_SnapError fI fS :=
    { gC := PySem.W.mg_of X G xC, gS := PySem.W.mg_of X G xS, oex := ⟨⟨nm, q, N, bs, _, sn, sub, ab, col, dd, m0, m1, m2, m3, m5, xL, by rfl⟩, xsa, xeC, xtC, xkC⟩, xf := ⟨xga, xgg, xeC, xhC⟩, nP := xnP, nM := xnM, iC := xi, tI := xti, sC := xs, tS := xts,
      te := exm_me xeC xiC xtC xsC, ks := kit_sub xiS xtS xsS, cl := xiC, aC := xaC, sp := xsp, tk := xtk, mo := xmo }
  have F_Reader___init__ := fun_mk (st := s_Reader___init__) l_Reader___init__ c_Reader___init__ k_Reader___init__
  have v_Reader___init__ := F_Reader___init__.binds (ps := ["self", "tokens"]) fun _ _ _ _ _ _ us hl => match us, hl with | [_, _], _ => rfl
  have F_Reader_sees := fun_mk (st := s_Reader_sees) l_Reader_sees c_Reader_sees k_Reader_sees
  have v_Reader_sees := F_Reader_sees.binds (ps := ["self", "kind"]) fun _ _ _ _ _ _ us hl => match us, hl with | [_, _], _ => rfl
  have F_Reader_take := fun_mk (st := s_Reader_take) l_Reader_take c_Reader_take k_Reader_take
  have v_Reader_take := F_Reader_take.binds (ps := ["self", "fits"]) fun _ _ _ _ _ _ us hl => match us, hl with | [_, _], _ => rfl
  have F_number_of := fun_mk (st := s_number_of) l_number_of c_number_of k_number_of
  have v_number_of := F_number_of.binds (ps := ["word"]) fun _ _ _ _ _ _ us hl => match us, hl with | [_], _ => rfl
  have F_Reader_take_number := fun_mk (st := s_Reader_take_number) l_Reader_take_number c_Reader_take_number k_Reader_take_number
  have v_Reader_take_number := F_Reader_take_number.binds (ps := ["self", "least", "greatest"]) fun _ _ _ _ _ _ us hl => match us, hl with | [_, _, _], _ => rfl
  have F_Reader_sees_word := fun_mk (st := s_Reader_sees_word) l_Reader_sees_word c_Reader_sees_word k_Reader_sees_word
  have v_Reader_sees_word := F_Reader_sees_word.binds (ps := ["self", "choices"]) fun _ _ _ _ _ _ us hl => match us, hl with | [_, _], _ => rfl
  have F_Reader_take_word := fun_mk (st := s_Reader_take_word) l_Reader_take_word c_Reader_take_word k_Reader_take_word
  have v_Reader_take_word := F_Reader_take_word.binds (ps := ["self", "choices"]) fun _ _ _ _ _ _ us hl => match us, hl with | [_, _], _ => rfl
  have F_Reader_sees_key := fun_mk (st := s_Reader_sees_key) l_Reader_sees_key c_Reader_sees_key k_Reader_sees_key
  have v_Reader_sees_key := F_Reader_sees_key.binds (ps := ["self"]) fun _ _ _ _ _ _ us hl => match us, hl with | [_], _ => rfl
  have F_Reader_take_key := fun_mk (st := s_Reader_take_key) l_Reader_take_key c_Reader_take_key k_Reader_take_key
  have v_Reader_take_key := F_Reader_take_key.binds (ps := ["self"]) fun _ _ _ _ _ _ us hl => match us, hl with | [_], _ => rfl
  have F_Reader_take_keys := fun_mk (st := s_Reader_take_keys) l_Reader_take_keys c_Reader_take_keys k_Reader_take_keys
  have v_Reader_take_keys := F_Reader_take_keys.binds (ps := ["self"]) fun _ _ _ _ _ _ us hl => match us, hl with | [_], _ => rfl
  have F_read_commit := fun_mk (st := s_read_commit) l_read_commit c_read_commit k_read_commit
  have v_read_commit := F_read_commit.binds (ps := ["reader"]) fun _ _ _ _ _ _ us hl => match us, hl with | [_], _ => rfl
  have F_read_times := fun_mk (st := s_read_times) l_read_times c_read_times k_read_times
  have v_read_times := F_read_times.binds (ps := ["reader"]) fun _ _ _ _ _ _ us hl => match us, hl with | [_], _ => rfl
  have F_read_value := fun_mk (st := s_read_value) l_read_value c_read_value k_read_value
  have v_read_value := F_read_value.binds (ps := ["reader"]) fun _ _ _ _ _ _ us hl => match us, hl with | [_], _ => rfl
  have F_read_piece := fun_mk (st := s_read_piece) l_read_piece c_read_piece k_read_piece
  have v_read_piece := F_read_piece.binds (ps := ["reader"]) fun _ _ _ _ _ _ us hl => match us, hl with | [_], _ => rfl
  have F_read_pieces := fun_mk (st := s_read_pieces) l_read_pieces c_read_pieces k_read_pieces
  have v_read_pieces := F_read_pieces.binds (ps := ["reader"]) fun _ _ _ _ _ _ us hl => match us, hl with | [_], _ => rfl
  have F_end_of_run := fun_mk (st := s_end_of_run) l_end_of_run c_end_of_run k_end_of_run
  have v_end_of_run := F_end_of_run.binds (ps := ["text", "start", "alphabet"]) fun _ _ _ _ _ _ us hl => match us, hl with | [_, _, _], _ => rfl
  have F_end_of_token := fun_mk (st := s_end_of_token) l_end_of_token c_end_of_token k_end_of_token
  have v_end_of_token := F_end_of_token.binds (ps := ["text", "start"]) fun _ _ _ _ _ _ us hl => match us, hl with | [_, _], _ => rfl
  have F_kind_of := fun_mk (st := s_kind_of) l_kind_of c_kind_of k_kind_of
  have v_kind_of := F_kind_of.binds (ps := ["text", "start"]) fun _ _ _ _ _ _ us hl => match us, hl with | [_, _], _ => rfl
  have F_scan := fun_mk (st := s_scan) l_scan c_scan k_scan
  have v_scan := F_scan.binds (ps := ["text"]) fun _ _ _ _ _ _ us hl => match us, hl with | [_], _ => rfl
  have F_parse_news := fun_mk (st := s_parse_news) l_parse_news c_parse_news k_parse_news
  have v_parse_news := F_parse_news.binds (ps := ["text"]) fun _ _ _ _ _ _ us hl => match us, hl with | [_], _ => rfl
  have F__law_asked := fun_mk (st := s__law_asked) l__law_asked c__law_asked k__law_asked
  have v__law_asked := F__law_asked.binds (ps := ["text"]) fun _ _ _ _ _ _ us hl => match us, hl with | [_], _ => rfl
  have F__law_next := fun_mk (st := s__law_next) l__law_next c__law_next k__law_next
  have v__law_next := F__law_next.binds (ps := ["draw", "many"]) fun _ _ _ _ _ _ us hl => match us, hl with | [_, _], _ => rfl
  have F__law_changed := fun_mk (st := s__law_changed) l__law_changed c__law_changed k__law_changed
  have v__law_changed := F__law_changed.binds (ps := ["draw", "tokens"]) fun _ _ _ _ _ _ us hl => match us, hl with | [_, _], _ => rfl
  have F__law_draw := fun_mk (st := s__law_draw) l__law_draw c__law_draw k__law_draw
  have v__law_draw := F__law_draw.binds (ps := ["script"]) fun _ _ _ _ _ _ us hl => match us, hl with | [_], _ => rfl
  have F__law_next_states := fun_mk (st := s__law_next_states) l__law_next_states c__law_next_states k__law_next_states
  have v__law_next_states := F__law_next_states.binds (ps := ["state", "token"]) fun _ _ _ _ _ _ us hl => match us, hl with | [_, _], _ => rfl
  have F__law_start_of := fun_mk (st := s__law_start_of) l__law_start_of c__law_start_of k__law_start_of
  have v__law_start_of := F__law_start_of.binds (ps := ["tokens", "k"]) fun _ _ _ _ _ _ us hl => match us, hl with | [_, _], _ => rfl
  have F__law_range_wrong := fun_mk (st := s__law_range_wrong) l__law_range_wrong c__law_range_wrong k__law_range_wrong
  have v__law_range_wrong := F__law_range_wrong.binds (ps := ["tokens"]) fun _ _ _ _ _ _ us hl => match us, hl with | [_], _ => rfl
  have F__law_due := fun_mk (st := s__law_due) l__law_due c__law_due k__law_due
  have v__law_due := F__law_due.binds (ps := ["tokens", "text", "places", "tight"]) fun _ _ _ _ _ _ us hl => match us, hl with | [_, _, _, _], _ => rfl
  have F__law_joined := fun_mk (st := s__law_joined) l__law_joined c__law_joined k__law_joined
  have v__law_joined := F__law_joined.binds (ps := ["draw", "tokens"]) fun _ _ _ _ _ _ us hl => match us, hl with | [_, _], _ => rfl
  have F__law_commits := fun_mk (st := s__law_commits) l__law_commits c__law_commits k__law_commits
  have v__law_commits := F__law_commits.binds (ps := ["shelf"]) fun _ _ _ _ _ _ us hl => match us, hl with | [_], _ => rfl
  have F__law_bent := fun_mk (st := s__law_bent) l__law_bent c__law_bent k__law_bent
  have v__law_bent := F__law_bent.binds (ps := ["draw", "shelf", "piece"]) fun _ _ _ _ _ _ us hl => match us, hl with | [_, _, _], _ => rfl
  have F__law_told := fun_mk (st := s__law_told) l__law_told c__law_told k__law_told
  have v__law_told := F__law_told.binds (ps := ["draw", "shelf", "table", "most"]) fun _ _ _ _ _ _ us hl => match us, hl with | [_, _, _, _], _ => rfl
  have F__law_news := fun_mk (st := s__law_news) l__law_news c__law_news k__law_news
  have v__law_news := F__law_news.binds (ps := ["draw", "shelf", "most", "many", "bends"]) fun _ _ _ _ _ _ us hl => match us, hl with | [_, _, _, _, _], _ => rfl
  have F__law_same := fun_mk (st := s__law_same) l__law_same c__law_same k__law_same
  have v__law_same := F__law_same.binds (ps := ["actual", "due"]) fun _ _ _ _ _ _ us hl => match us, hl with | [_, _], _ => rfl
  have F__law_shelf := fun_mk (st := s__law_shelf) l__law_shelf c__law_shelf k__law_shelf
  have v__law_shelf := F__law_shelf.binds (ps := ["draw"]) fun _ _ _ _ _ _ us hl => match us, hl with | [_], _ => rfl
  have F__law_tokens := fun_mk (st := s__law_tokens) l__law_tokens c__law_tokens k__law_tokens
  have v__law_tokens := F__law_tokens.binds (ps := ["piece"]) fun _ _ _ _ _ _ us hl => match us, hl with | [_], _ => rfl
  have F_law := fun_mk (st := s_law) l_law c_law k_law
  have v_law := F_law.binds (ps := ["script"]) fun _ _ _ _ _ _ us hl => match us, hl with | [_], _ => rfl
  exact ⟨_, fun s v => .of_eq rfl, fun base _ _ => ok_law { C_TextError := C_TextError, C_SnapError := C_SnapError, fI := fI, dI := _, F_I := F_I, vI := v_I, fS := fS, dS := _, F_S := F_S, vS := v_S, etx := etx, C_Reader := C_Reader, cl_Reader := ⟨pg, hd, po, sa⟩, mC_Reader := PySem.W.mg_of X G n_Reader, mk_Reader := ⟨makes, n_Reader___init__, i_Reader___init__, kc⟩, na_Reader_beyond := na_beyond, na_Reader_passed := na_passed, na_Reader_tokens := na_tokens, a_Reader___init__ := a_Reader___init__, d_Reader___init__ := _, F_Reader___init__ := F_Reader___init__, v_Reader___init__ := v_Reader___init__, mt_Reader___init__ := ⟨n_Reader___init__, i_Reader___init__, k_Reader___init__⟩, a_Reader_sees := a_Reader_sees, d_Reader_sees := _, F_Reader_sees := F_Reader_sees, v_Reader_sees := v_Reader_sees, mt_Reader_sees := ⟨n_Reader_sees, i_Reader_sees, k_Reader_sees⟩, a_Reader_take := a_Reader_take, d_Reader_take := _, F_Reader_take := F_Reader_take, v_Reader_take := v_Reader_take, mt_Reader_take := ⟨n_Reader_take, i_Reader_take, k_Reader_take⟩, a_number_of := a_number_of, d_number_of := _, F_number_of := F_number_of, m_number_of := PySem.W.mg_of X G n_number_of, v_number_of := v_number_of, k_number_of := k_number_of, a_Reader_take_number := a_Reader_take_number, d_Reader_take_number := _, F_Reader_take_number := F_Reader_take_number, v_Reader_take_number := v_Reader_take_number, mt_Reader_take_number := ⟨n_Reader_take_number, i_Reader_take_number, k_Reader_take_number⟩, a_Reader_sees_word := a_Reader_sees_word, d_Reader_sees_word := _, F_Reader_sees_word := F_Reader_sees_word, v_Reader_sees_word := v_Reader_sees_word, mt_Reader_sees_word := ⟨n_Reader_sees_word, i_Reader_sees_word, k_Reader_sees_word⟩, a_Reader_take_word := a_Reader_take_word, d_Reader_take_word := _, F_Reader_take_word := F_Reader_take_word, v_Reader_take_word := v_Reader_take_word, mt_Reader_take_word := ⟨n_Reader_take_word, i_Reader_take_word, k_Reader_take_word⟩, a_Reader_sees_key := a_Reader_sees_key, d_Reader_sees_key := _, F_Reader_sees_key := F_Reader_sees_key, v_Reader_sees_key := v_Reader_sees_key, mt_Reader_sees_key := ⟨n_Reader_sees_key, i_Reader_sees_key, k_Reader_sees_key⟩, a_Reader_take_key := a_Reader_take_key, d_Reader_take_key := _, F_Reader_take_key := F_Reader_take_key, v_Reader_take_key := v_Reader_take_key, mt_Reader_take_key := ⟨n_Reader_take_key, i_Reader_take_key, k_Reader_take_key⟩, a_Reader_take_keys := a_Reader_take_keys, d_Reader_take_keys := _, F_Reader_take_keys := F_Reader_take_keys, v_Reader_take_keys := v_Reader_take_keys, mt_Reader_take_keys := ⟨n_Reader_take_keys, i_Reader_take_keys, k_Reader_take_keys⟩, a_read_commit := a_read_commit, d_read_commit := _, F_read_commit := F_read_commit, m_read_commit := PySem.W.mg_of X G n_read_commit, v_read_commit := v_read_commit, k_read_commit := k_read_commit, a_read_times := a_read_times, d_read_times := _, F_read_times := F_read_times, m_read_times := PySem.W.mg_of X G n_read_times, v_read_times := v_read_times, k_read_times := k_read_times, a_read_value := a_read_value, d_read_value := _, F_read_value := F_read_value, m_read_value := PySem.W.mg_of X G n_read_value, v_read_value := v_read_value, k_read_value := k_read_value, a_read_piece := a_read_piece, d_read_piece := _, F_read_piece := F_read_piece, m_read_piece := PySem.W.mg_of X G n_read_piece, v_read_piece := v_read_piece, k_read_piece := k_read_piece, a_read_pieces := a_read_pieces, d_read_pieces := _, F_read_pieces := F_read_pieces, m_read_pieces := PySem.W.mg_of X G n_read_pieces, v_read_pieces := v_read_pieces, k_read_pieces := k_read_pieces, a_end_of_run := a_end_of_run, d_end_of_run := _, F_end_of_run := F_end_of_run, m_end_of_run := PySem.W.mg_of X G n_end_of_run, v_end_of_run := v_end_of_run, k_end_of_run := k_end_of_run, a_end_of_token := a_end_of_token, d_end_of_token := _, F_end_of_token := F_end_of_token, m_end_of_token := PySem.W.mg_of X G n_end_of_token, v_end_of_token := v_end_of_token, k_end_of_token := k_end_of_token, a_kind_of := a_kind_of, d_kind_of := _, F_kind_of := F_kind_of, m_kind_of := PySem.W.mg_of X G n_kind_of, v_kind_of := v_kind_of, k_kind_of := k_kind_of, a_scan := a_scan, d_scan := _, F_scan := F_scan, m_scan := PySem.W.mg_of X G n_scan, v_scan := v_scan, k_scan := k_scan, a_parse_news := a_parse_news, d_parse_news := _, F_parse_news := F_parse_news, m_parse_news := PySem.W.mg_of X G n_parse_news, v_parse_news := v_parse_news, k_parse_news := k_parse_news, a__law_asked := a__law_asked, d__law_asked := _, F__law_asked := F__law_asked, m__law_asked := PySem.W.mg_of X G n__law_asked, v__law_asked := v__law_asked, k__law_asked := k__law_asked, a__law_next := a__law_next, d__law_next := _, F__law_next := F__law_next, m__law_next := PySem.W.mg_of X G n__law_next, v__law_next := v__law_next, k__law_next := k__law_next, a__law_changed := a__law_changed, d__law_changed := _, F__law_changed := F__law_changed, m__law_changed := PySem.W.mg_of X G n__law_changed, v__law_changed := v__law_changed, k__law_changed := k__law_changed, a__law_draw := a__law_draw, d__law_draw := _, F__law_draw := F__law_draw, m__law_draw := PySem.W.mg_of X G n__law_draw, v__law_draw := v__law_draw, k__law_draw := k__law_draw, a__law_next_states := a__law_next_states, d__law_next_states := _, F__law_next_states := F__law_next_states, m__law_next_states := PySem.W.mg_of X G n__law_next_states, v__law_next_states := v__law_next_states, k__law_next_states := k__law_next_states, a__law_start_of := a__law_start_of, d__law_start_of := _, F__law_start_of := F__law_start_of, m__law_start_of := PySem.W.mg_of X G n__law_start_of, v__law_start_of := v__law_start_of, k__law_start_of := k__law_start_of, a__law_range_wrong := a__law_range_wrong, d__law_range_wrong := _, F__law_range_wrong := F__law_range_wrong, m__law_range_wrong := PySem.W.mg_of X G n__law_range_wrong, v__law_range_wrong := v__law_range_wrong, k__law_range_wrong := k__law_range_wrong, a__law_due := a__law_due, d__law_due := _, F__law_due := F__law_due, m__law_due := PySem.W.mg_of X G n__law_due, v__law_due := v__law_due, k__law_due := k__law_due, a__law_joined := a__law_joined, d__law_joined := _, F__law_joined := F__law_joined, m__law_joined := PySem.W.mg_of X G n__law_joined, v__law_joined := v__law_joined, k__law_joined := k__law_joined, a__law_commits := a__law_commits, d__law_commits := _, F__law_commits := F__law_commits, m__law_commits := PySem.W.mg_of X G n__law_commits, v__law_commits := v__law_commits, k__law_commits := k__law_commits, a__law_bent := a__law_bent, d__law_bent := _, F__law_bent := F__law_bent, m__law_bent := PySem.W.mg_of X G n__law_bent, v__law_bent := v__law_bent, k__law_bent := k__law_bent, a__law_told := a__law_told, d__law_told := _, F__law_told := F__law_told, m__law_told := PySem.W.mg_of X G n__law_told, v__law_told := v__law_told, k__law_told := k__law_told, a__law_news := a__law_news, d__law_news := _, F__law_news := F__law_news, m__law_news := PySem.W.mg_of X G n__law_news, v__law_news := v__law_news, k__law_news := k__law_news, a__law_same := a__law_same, d__law_same := _, F__law_same := F__law_same, m__law_same := PySem.W.mg_of X G n__law_same, v__law_same := v__law_same, k__law_same := k__law_same, a__law_shelf := a__law_shelf, d__law_shelf := _, F__law_shelf := F__law_shelf, m__law_shelf := PySem.W.mg_of X G n__law_shelf, v__law_shelf := v__law_shelf, k__law_shelf := k__law_shelf, a__law_tokens := a__law_tokens, d__law_tokens := _, F__law_tokens := F__law_tokens, m__law_tokens := PySem.W.mg_of X G n__law_tokens, v__law_tokens := v__law_tokens, k__law_tokens := k__law_tokens, a_law := _, d_law := _, F_law := F_law, m_law := PySem.W.mg_of X G n_law, v_law := v_law, k_law := k_law, b_abs := PySem.W.mg_none_of X G z_abs, b_all := PySem.W.mg_none_of X G z_all, b_bool := PySem.W.mg_none_of X G z_bool, b_int := PySem.W.mg_none_of X G z_int, b_isinstance := PySem.W.mg_none_of X G z_isinstance, b_len := PySem.W.mg_none_of X G z_len, b_list := PySem.W.mg_none_of X G z_list, b_max := PySem.W.mg_none_of X G z_max, b_range := PySem.W.mg_none_of X G z_range, b_set := PySem.W.mg_none_of X G z_set, b_sorted := PySem.W.mg_none_of X G z_sorted, b_str := PySem.W.mg_none_of X G z_str, b_tuple := PySem.W.mg_none_of X G z_tuple, t_BLANKS := t_BLANKS, g_BLANKS := PySem.W.mg_of X G g_BLANKS, t_DIGITS := t_DIGITS, g_DIGITS := PySem.W.mg_of X G g_DIGITS, t_END := t_END, g_END := PySem.W.mg_of X G g_END, t_FARTHEST_VALUE := t_FARTHEST_VALUE, g_FARTHEST_VALUE := PySem.W.mg_of X G g_FARTHEST_VALUE, t_GLUED := t_GLUED, g_GLUED := PySem.W.mg_of X G g_GLUED, t_LAST_VERSION := t_LAST_VERSION, g_LAST_VERSION := PySem.W.mg_of X G g_LAST_VERSION, t_LETTERS := t_LETTERS, g_LETTERS := PySem.W.mg_of X G g_LETTERS, t_LONGEST_KEY := t_LONGEST_KEY, g_LONGEST_KEY := PySem.W.mg_of X G g_LONGEST_KEY, t_MOST_PIECES := t_MOST_PIECES, g_MOST_PIECES := PySem.W.mg_of X G g_MOST_PIECES, t_MOST_WRITES := t_MOST_WRITES, g_MOST_WRITES := PySem.W.mg_of X G g_MOST_WRITES, t_NUMBER := t_NUMBER, g_NUMBER := PySem.W.mg_of X G g_NUMBER, t_SEPARATOR := t_SEPARATOR, g_SEPARATOR := PySem.W.mg_of X G g_SEPARATOR, t_WORD := t_WORD, g_WORD := PySem.W.mg_of X G g_WORD }⟩
theorem walk {l : PySem.W.OpenLaw} {q : Program} {loose : List Str} {XP : (Str → Option Value) → Heap → Prop} {YP : World → Heap → Prop} {d : DefRec} {K : Params → PySem.W.Frag} (hn : l.most = some 63) (hdf : d.params.defaults = [])
    (hY : ∀ (w : World) (h : Heap), YP w h → (K w.params).In h)
    (F : ∀ (w : World) (mg : Str → Option Value) (fa : Addr) (h : Heap), (K w.params).In h → h.Ns mainGlobals mg → mg d.name = some (.ref fa) →
      ∃ fd : FuncData, (∀ (s : Shared) (u : Value), BindsTo s fd ⟨[u], []⟩ [("script", u)]) ∧ ∀ base : Heap, (K w.params).In base → base.Ns mainGlobals mg → FnOk l.prog w (K w.params) mg base CX0 11 fa fd ["script"] (spD (K w.params) C_law)) :
    PySem.W.WalkO q loose XP YP l.row.toRowW d [] (fun f vs => PySem.call f vs) :=
  L2.walk_of (n := 63) (k := 11) (x := "script") (CX := fun _ => CX0) (sp := fun w => spD (K w.params) C_law) hn (by decide) hdf ⟨rfl, by decide, by decide⟩ hY F (fun _ H a ns hl _ hS => sp_law H a ns hl hS) fun _ _ _ _ _ z => z
end K42
open PySem PySem.W PyProof.Rows
set_option maxRecDepth 100000 in
set_option maxHeartbeats 0 in
theorem PySem.Challenge.cw_suresnap_k42_errors_of_news_holds : PySem.Challenge.rw_suresnap_k42_errors_of_news.Holds := by
  w_on; o_law; k_head; (case hw => w_witness2)
  k_fill
  refine K42.walk (l := PySem.Challenge.rw_suresnap_k42_errors_of_news) rfl rfl (fun w h Y => PySem.W.kIn_of Y) ?F
  case F =>
    intro w mg fa h KX G hmg
    refine' K42.all_mk KX G hmg ?n_Reader ?pg ?hd ?po ?sa ?makes ?kc ?na_beyond ?na_passed ?na_tokens ?xC ?xS ?xL ?xsa ?xga ?xgg ?xnP ?xnM ?xi ?xti ?xs ?xts ?xkC ?xeC ?xtC ?xhC ?xiC ?xsC ?xiS ?xtS ?xsS ?xaC ?xsp ?xtk ?xmo ?l_I ?c_I ?k_I ?l_S ?c_S ?k_S ?n_Reader___init__ ?i_Reader___init__ ?l_Reader___init__ ?c_Reader___init__ ?k_Reader___init__ ?n_Reader_sees ?i_Reader_sees ?l_Reader_sees ?c_Reader_sees ?k_Reader_sees ?n_Reader_take ?i_Reader_take ?l_Reader_take ?c_Reader_take ?k_Reader_take ?n_number_of ?l_number_of ?c_number_of ?k_number_of ?n_Reader_take_number ?i_Reader_take_number ?l_Reader_take_number ?c_Reader_take_number ?k_Reader_take_number ?n_Reader_sees_word ?i_Reader_sees_word ?l_Reader_sees_word ?c_Reader_sees_word ?k_Reader_sees_word ?n_Reader_take_word ?i_Reader_take_word ?l_Reader_take_word ?c_Reader_take_word ?k_Reader_take_word ?n_Reader_sees_key ?i_Reader_sees_key ?l_Reader_sees_key ?c_Reader_sees_key ?k_Reader_sees_key ?n_Reader_take_key ?i_Reader_take_key ?l_Reader_take_key ?c_Reader_take_key ?k_Reader_take_key ?n_Reader_take_keys ?i_Reader_take_keys ?l_Reader_take_keys ?c_Reader_take_keys ?k_Reader_take_keys ?n_read_commit ?l_read_commit ?c_read_commit ?k_read_commit ?n_read_times ?l_read_times ?c_read_times ?k_read_times ?n_read_value ?l_read_value ?c_read_value ?k_read_value ?n_read_piece ?l_read_piece ?c_read_piece ?k_read_piece ?n_read_pieces ?l_read_pieces ?c_read_pieces ?k_read_pieces ?n_end_of_run ?l_end_of_run ?c_end_of_run ?k_end_of_run ?n_end_of_token ?l_end_of_token ?c_end_of_token ?k_end_of_token ?n_kind_of ?l_kind_of ?c_kind_of ?k_kind_of ?n_scan ?l_scan ?c_scan ?k_scan ?n_parse_news ?l_parse_news ?c_parse_news ?k_parse_news ?n__law_asked ?l__law_asked ?c__law_asked ?k__law_asked ?n__law_next ?l__law_next ?c__law_next ?k__law_next ?n__law_changed ?l__law_changed ?c__law_changed ?k__law_changed ?n__law_draw ?l__law_draw ?c__law_draw ?k__law_draw ?n__law_next_states ?l__law_next_states ?c__law_next_states ?k__law_next_states ?n__law_start_of ?l__law_start_of ?c__law_start_of ?k__law_start_of ?n__law_range_wrong ?l__law_range_wrong ?c__law_range_wrong ?k__law_range_wrong ?n__law_due ?l__law_due ?c__law_due ?k__law_due ?n__law_joined ?l__law_joined ?c__law_joined ?k__law_joined ?n__law_commits ?l__law_commits ?c__law_commits ?k__law_commits ?n__law_bent ?l__law_bent ?c__law_bent ?k__law_bent ?n__law_told ?l__law_told ?c__law_told ?k__law_told ?n__law_news ?l__law_news ?c__law_news ?k__law_news ?n__law_same ?l__law_same ?c__law_same ?k__law_same ?n__law_shelf ?l__law_shelf ?c__law_shelf ?k__law_shelf ?n__law_tokens ?l__law_tokens ?c__law_tokens ?k__law_tokens ?n_law ?l_law ?c_law ?k_law ?z_abs ?z_all ?z_bool ?z_int ?z_isinstance ?z_len ?z_list ?z_max ?z_range ?z_set ?z_sorted ?z_str ?z_tuple ?g_BLANKS ?g_DIGITS ?g_END ?g_FARTHEST_VALUE ?g_GLUED ?g_LAST_VERSION ?g_LETTERS ?g_LONGEST_KEY ?g_MOST_PIECES ?g_MOST_WRITES ?g_NUMBER ?g_SEPARATOR ?g_WORD
    (case n_Reader => first | k_is | rfl)
    (case pg => first | k_is | rfl)
    (case hd => first | k_is | rfl)
    (case po => first | k_is | rfl)
    (case sa => first | k_is | rfl)
    (case makes => first | k_is | rfl)
    (case kc => first | k_is | rfl)
    (case na_beyond => first | k_is | rfl)
    (case na_passed => first | k_is | rfl)
    (case na_tokens => first | k_is | rfl)
    (case xC => first | k_is | rfl)
    (case xS => first | k_is | rfl)
    (case xL => first | k_is | rfl)
    (case xsa => first | k_is | rfl)
    (case xga => first | k_is | rfl)
    (case xgg => first | k_is | rfl)
    (case xnP => first | k_is | rfl)
    (case xnM => first | k_is | rfl)
    (case xi => first | k_is | rfl)
    (case xti => first | k_is | rfl)
    (case xs => first | k_is | rfl)
    (case xts => first | k_is | rfl)
    (case xkC => first | k_is | rfl)
    (case xeC => first | k_is | rfl)
    (case xtC => first | k_is | rfl)
    (case xhC => first | k_is | rfl)
    (case xiC => first | k_is | rfl)
    (case xsC => first | k_is | rfl)
    (case xiS => first | k_is | rfl)
    (case xtS => first | k_is | rfl)
    (case xsS => first | k_is | rfl)
    (case xaC => first | k_is | rfl)
    (case xsp => first | k_is | rfl)
    (case xtk => first | k_is | rfl)
    (case xmo => first | k_is | rfl)
    (case l_I => first | k_is | rfl)
    (case c_I => first | k_is | rfl)
    (case k_I => first | k_is | rfl)
    (case l_S => first | k_is | rfl)
    (case c_S => first | k_is | rfl)
    (case k_S => first | k_is | rfl)
    (case n_Reader___init__ => first | k_is | rfl)
    (case i_Reader___init__ => first | k_is | rfl)
    (case l_Reader___init__ => first | k_is | rfl)
    (case c_Reader___init__ => first | k_is | rfl)
    (case k_Reader___init__ => first | k_is | rfl)
    (case n_Reader_sees => first | k_is | rfl)
    (case i_Reader_sees => first | k_is | rfl)
    (case l_Reader_sees => first | k_is | rfl)
    (case c_Reader_sees => first | k_is | rfl)
    (case k_Reader_sees => first | k_is | rfl)
    (case n_Reader_take => first | k_is | rfl)
    (case i_Reader_take => first | k_is | rfl)
    (case l_Reader_take => first | k_is | rfl)
    (case c_Reader_take => first | k_is | rfl)
    (case k_Reader_take => first | k_is | rfl)
    (case n_number_of => first | k_is | rfl)
    (case l_number_of => first | k_is | rfl)
    (case c_number_of => first | k_is | rfl)
    (case k_number_of => first | k_is | rfl)
    (case n_Reader_take_number => first | k_is | rfl)
    (case i_Reader_take_number => first | k_is | rfl)
    (case l_Reader_take_number => first | k_is | rfl)
    (case c_Reader_take_number => first | k_is | rfl)
    (case k_Reader_take_number => first | k_is | rfl)
    (case n_Reader_sees_word => first | k_is | rfl)
    (case i_Reader_sees_word => first | k_is | rfl)
    (case l_Reader_sees_word => first | k_is | rfl)
    (case c_Reader_sees_word => first | k_is | rfl)
    (case k_Reader_sees_word => first | k_is | rfl)
    (case n_Reader_take_word => first | k_is | rfl)
    (case i_Reader_take_word => first | k_is | rfl)
    (case l_Reader_take_word => first | k_is | rfl)
    (case c_Reader_take_word => first | k_is | rfl)
    (case k_Reader_take_word => first | k_is | rfl)
    (case n_Reader_sees_key => first | k_is | rfl)
    (case i_Reader_sees_key => first | k_is | rfl)
    (case l_Reader_sees_key => first | k_is | rfl)
    (case c_Reader_sees_key => first | k_is | rfl)
    (case k_Reader_sees_key => first | k_is | rfl)
    (case n_Reader_take_key => first | k_is | rfl)
    (case i_Reader_take_key => first | k_is | rfl)
    (case l_Reader_take_key => first | k_is | rfl)
    (case c_Reader_take_key => first | k_is | rfl)
    (case k_Reader_take_key => first | k_is | rfl)
    (case n_Reader_take_keys => first | k_is | rfl)
    (case i_Reader_take_keys => first | k_is | rfl)
    (case l_Reader_take_keys => first | k_is | rfl)
    (case c_Reader_take_keys => first | k_is | rfl)
    (case k_Reader_take_keys => first | k_is | rfl)
    (case n_read_commit => first | k_is | rfl)
    (case l_read_commit => first | k_is | rfl)
    (case c_read_commit => first | k_is | rfl)
    (case k_read_commit => first | k_is | rfl)
    (case n_read_times => first | k_is | rfl)
    (case l_read_times => first | k_is | rfl)
    (case c_read_times => first | k_is | rfl)
    (case k_read_times => first | k_is | rfl)
    (case n_read_value => first | k_is | rfl)
    (case l_read_value => first | k_is | rfl)
    (case c_read_value => first | k_is | rfl)
    (case k_read_value => first | k_is | rfl)
    (case n_read_piece => first | k_is | rfl)
    (case l_read_piece => first | k_is | rfl)
    (case c_read_piece => first | k_is | rfl)
    (case k_read_piece => first | k_is | rfl)
    (case n_read_pieces => first | k_is | rfl)
    (case l_read_pieces => first | k_is | rfl)
    (case c_read_pieces => first | k_is | rfl)
    (case k_read_pieces => first | k_is | rfl)
    (case n_end_of_run => first | k_is | rfl)
    (case l_end_of_run => first | k_is | rfl)
    (case c_end_of_run => first | k_is | rfl)
    (case k_end_of_run => first | k_is | rfl)
    (case n_end_of_token => first | k_is | rfl)
    (case l_end_of_token => first | k_is | rfl)
    (case c_end_of_token => first | k_is | rfl)
    (case k_end_of_token => first | k_is | rfl)
    (case n_kind_of => first | k_is | rfl)
    (case l_kind_of => first | k_is | rfl)
    (case c_kind_of => first | k_is | rfl)
    (case k_kind_of => first | k_is | rfl)
    (case n_scan => first | k_is | rfl)
    (case l_scan => first | k_is | rfl)
    (case c_scan => first | k_is | rfl)
    (case k_scan => first | k_is | rfl)
    (case n_parse_news => first | k_is | rfl)
    (case l_parse_news => first | k_is | rfl)
    (case c_parse_news => first | k_is | rfl)
    (case k_parse_news => first | k_is | rfl)
    (case n__law_asked => first | k_is | rfl)
    (case l__law_asked => first | k_is | rfl)
    (case c__law_asked => first | k_is | rfl)
    (case k__law_asked => first | k_is | rfl)
    (case n__law_next => first | k_is | rfl)
    (case l__law_next => first | k_is | rfl)
    (case c__law_next => first | k_is | rfl)
    (case k__law_next => first | k_is | rfl)
    (case n__law_changed => first | k_is | rfl)
    (case l__law_changed => first | k_is | rfl)
    (case c__law_changed => first | k_is | rfl)
    (case k__law_changed => first | k_is | rfl)
    (case n__law_draw => first | k_is | rfl)
    (case l__law_draw => first | k_is | rfl)
    (case c__law_draw => first | k_is | rfl)
    (case k__law_draw => first | k_is | rfl)
    (case n__law_next_states => first | k_is | rfl)
    (case l__law_next_states => first | k_is | rfl)
    (case c__law_next_states => first | k_is | rfl)
    (case k__law_next_states => first | k_is | rfl)
    (case n__law_start_of => first | k_is | rfl)
    (case l__law_start_of => first | k_is | rfl)
    (case c__law_start_of => first | k_is | rfl)
    (case k__law_start_of => first | k_is | rfl)
    (case n__law_range_wrong => first | k_is | rfl)
    (case l__law_range_wrong => first | k_is | rfl)
    (case c__law_range_wrong => first | k_is | rfl)
    (case k__law_range_wrong => first | k_is | rfl)
    (case n__law_due => first | k_is | rfl)
    (case l__law_due => first | k_is | rfl)
    (case c__law_due => first | k_is | rfl)
    (case k__law_due => first | k_is | rfl)
    (case n__law_joined => first | k_is | rfl)
    (case l__law_joined => first | k_is | rfl)
    (case c__law_joined => first | k_is | rfl)
    (case k__law_joined => first | k_is | rfl)
    (case n__law_commits => first | k_is | rfl)
    (case l__law_commits => first | k_is | rfl)
    (case c__law_commits => first | k_is | rfl)
    (case k__law_commits => first | k_is | rfl)
    (case n__law_bent => first | k_is | rfl)
    (case l__law_bent => first | k_is | rfl)
    (case c__law_bent => first | k_is | rfl)
    (case k__law_bent => first | k_is | rfl)
    (case n__law_told => first | k_is | rfl)
    (case l__law_told => first | k_is | rfl)
    (case c__law_told => first | k_is | rfl)
    (case k__law_told => first | k_is | rfl)
    (case n__law_news => first | k_is | rfl)
    (case l__law_news => first | k_is | rfl)
    (case c__law_news => first | k_is | rfl)
    (case k__law_news => first | k_is | rfl)
    (case n__law_same => first | k_is | rfl)
    (case l__law_same => first | k_is | rfl)
    (case c__law_same => first | k_is | rfl)
    (case k__law_same => first | k_is | rfl)
    (case n__law_shelf => first | k_is | rfl)
    (case l__law_shelf => first | k_is | rfl)
    (case c__law_shelf => first | k_is | rfl)
    (case k__law_shelf => first | k_is | rfl)
    (case n__law_tokens => first | k_is | rfl)
    (case l__law_tokens => first | k_is | rfl)
    (case c__law_tokens => first | k_is | rfl)
    (case k__law_tokens => first | k_is | rfl)
    (case n_law => first | k_is | rfl)
    (case l_law => first | k_is | rfl)
    (case c_law => first | k_is | rfl)
    (case k_law => first | k_is | rfl)
    (case z_abs => first | k_is | rfl)
    (case z_all => first | k_is | rfl)
    (case z_bool => first | k_is | rfl)
    (case z_int => first | k_is | rfl)
    (case z_isinstance => first | k_is | rfl)
    (case z_len => first | k_is | rfl)
    (case z_list => first | k_is | rfl)
    (case z_max => first | k_is | rfl)
    (case z_range => first | k_is | rfl)
    (case z_set => first | k_is | rfl)
    (case z_sorted => first | k_is | rfl)
    (case z_str => first | k_is | rfl)
    (case z_tuple => first | k_is | rfl)
    (case g_BLANKS => first | k_is | rfl)
    (case g_DIGITS => first | k_is | rfl)
    (case g_END => first | k_is | rfl)
    (case g_FARTHEST_VALUE => first | k_is | rfl)
    (case g_GLUED => first | k_is | rfl)
    (case g_LAST_VERSION => first | k_is | rfl)
    (case g_LETTERS => first | k_is | rfl)
    (case g_LONGEST_KEY => first | k_is | rfl)
    (case g_MOST_PIECES => first | k_is | rfl)
    (case g_MOST_WRITES => first | k_is | rfl)
    (case g_NUMBER => first | k_is | rfl)
    (case g_SEPARATOR => first | k_is | rfl)
    (case g_WORD => first | k_is | rfl)
#print axioms PySem.Challenge.cw_suresnap_k42_errors_of_news_holds
