import PyProof.Rows.All
import Wide.All
import OpenK.AllK
import Wide.FinOn
import HandS.ForMost
import HandS.ForExc
import HandS.TupAny
import HandS.IsInst
import HandS.Flow
import KE.DataMinMax
import PyProof.DictMoreH
import HandS.SortKw
import HandS.SetKeys
import HandS.SetTxt0
import HandS.SetFor
import HandS.Strs
import HandS.More
import HandS.Style
import HandS.Iter
import PySem.Challenge.RW_suresnap_k43_histories_are_asked
set_option Elab.async false
set_option linter.all false
set_option maxRecDepth 100000
set_option maxHeartbeats 4000000
-- part DL1
section
/-! A layer of plain data over the hand layer: values as data (D), mutable objects by address (MO, Mu), readings as wishes about data. -/
namespace DL
open PySem L2

/-- plain data; ptr: an object that changes, by its address; scr: a list of ints that is only read -/
inductive D where
  | non | bl (b : Bool) | int (i : Int) | str (s : Str) | tup (ds : List D) | lst (ds : List D) | ptr (a : Addr) | scr (ns : List Int) | ty (n : String) | exn (a dd : Addr) (p : Int) (m : Str)
/-- an object that changes: a list, an instance, a dict with tuple keys, a dict, a drawer of numbers -/
inductive MO where
  | lst (ds : List D) | ins (C : Addr) (fs : List (Str × D)) | dT (kvs : List (List Key × D)) | dK (kvs : List (Key × D)) | draw
abbrev Mu := Addr → Option MO
abbrev Env := List (Option D)
def Mu.put (μ : Mu) (a : Addr) (o : MO) : Mu := fun b => if b = a then some o else μ b
def Mu.del (μ : Mu) (a : Addr) : Mu := fun b => if b = a then none else μ b
theorem Mu.put_same {μ : Mu} {a : Addr} {o : MO} : μ.put a o a = some o := by unfold Mu.put; rw [if_pos rfl]
theorem Mu.put_ne {μ : Mu} {a b : Addr} {o : MO} (h : b ≠ a) : μ.put a o b = μ b := by unfold Mu.put; rw [if_neg h]
theorem Mu.put_put {μ : Mu} {a : Addr} {o u : MO} : (μ.put a o).put a u = μ.put a u := by funext b; unfold Mu.put; split <;> rfl
theorem Mu.put_del {μ : Mu} {a : Addr} {o : MO} (h : μ a = none) : (μ.put a o).del a = μ := by
  funext b; unfold Mu.put Mu.del; by_cases e : b = a
  · subst e; simp [h]
  · simp [e]
theorem Mu.ne_of {μ : Mu} {a b : Addr} {o : MO} (h : μ a = some o) (h' : μ b = none) : a ≠ b := by intro e; subst e; rw [h] at h'; cases h'

/-- the heap without what changes -/
def hide (H : Hp) (μ : Mu) : Hp := fun a => match μ a with | some _ => none | none => H a
theorem hide_some {H : Hp} {μ : Mu} {a : Addr} {o : HO} : hide H μ a = some o ↔ μ a = none ∧ H a = some o := by
  unfold hide; cases h : μ a <;> simp
theorem hide_in {H : Hp} {μ : Mu} {a : Addr} {o : HO} (h : hide H μ a = some o) : H a = some o := (hide_some.mp h).2

/-- a text as the model lays it -/
def SOk (x : Str) : Prop := x.length ≤ sizeLine ∧ PyData.strOk x = true
instance (x : Str) : Decidable (SOk x) := by unfold SOk; infer_instance
mutual
inductive Rp (K : PySem.W.Frag) (G : Hp) : V → D → Prop
  | non : Rp K G .non .non
  | bl (b : Bool) : Rp K G (.bl b) (.bl b)
  | int (i : Int) : Rp K G (.int i) (.int i)
  | str (x : Str) : SOk x → Rp K G (.str x) (.str x)
  | tup {a : Addr} {xs : List V} {ds : List D} : G a = some (.tup xs) → RpAll K G xs ds → ds.length ≤ sizeLine → Rp K G (.ref a) (.tup ds)
  | lst {a : Addr} {xs : List V} {ds : List D} : G a = some (.lst xs) → RpAll K G xs ds → ds.length ≤ sizeLine → Rp K G (.ref a) (.lst ds)
  | ptr (a : Addr) : Rp K G (.ref a) (.ptr a)
  | scr {a : Addr} {ns : List Int} : SqL K G a (ns.map V.int) → Rp K G (.ref a) (.scr ns)
  | ty (n : String) : Rp K G (.ty n) (.ty n)
  | exn {a dd : Addr} {p : Int} {m : Str} : G dd = some (.xd [(("message" : Str), V.str m), (("place" : Str), V.int p)]) → SOk m → Rp K G (.ref a) (.exn a dd p m)
inductive RpAll (K : PySem.W.Frag) (G : Hp) : List V → List D → Prop
  | nil : RpAll K G [] []
  | cons {v : V} {vs : List V} {d : D} {ds : List D} : Rp K G v d → RpAll K G vs ds → RpAll K G (v :: vs) (d :: ds)
end
section
variable {K : PySem.W.Frag} {G G' : Hp}
mutual
theorem Rp.mono (e : Same G G') : ∀ {v : V} {d : D}, Rp K G v d → Rp K G' v d
  | _, _, .non => .non
  | _, _, .bl b => .bl b
  | _, _, .int i => .int i
  | _, _, .str x h => .str x h
  | _, _, .tup h r z => .tup (e _ _ h) (RpAll.mono e r) z
  | _, _, .lst h r z => .lst (e _ _ h) (RpAll.mono e r) z
  | _, _, .ptr a => .ptr a
  | _, _, .scr h => .scr (e.seq h)
  | _, _, .ty n => .ty n
  | _, _, .exn h z => .exn (e _ _ h) z
theorem RpAll.mono (e : Same G G') : ∀ {vs : List V} {ds : List D}, RpAll K G vs ds → RpAll K G' vs ds
  | _, _, .nil => .nil
  | _, _, .cons r t => .cons (Rp.mono e r) (RpAll.mono e t)
end
theorem RpAll.length : ∀ {vs : List V} {ds : List D}, RpAll K G vs ds → vs.length = ds.length
  | _, _, .nil => rfl
  | _, _, .cons _ t => by simp [RpAll.length t]
theorem RpAll.get : ∀ {vs : List V} {ds : List D} {i : Nat} {d : D}, RpAll K G vs ds → ds[i]? = some d → ∃ v, vs[i]? = some v ∧ Rp K G v d
  | _, _, _, _, .nil, e => by simp at e
  | _, _, 0, _, .cons r _, e => by simp at e; subst e; exact ⟨_, rfl, r⟩
  | _, _, i + 1, _, .cons _ t, e => by
    obtain ⟨v, h1, h2⟩ := RpAll.get (i := i) t (by simpa using e)
    exact ⟨v, by simpa using h1, h2⟩
theorem RpAll.getV : ∀ {vs : List V} {ds : List D} {i : Nat} {v : V}, RpAll K G vs ds → vs[i]? = some v → ∃ d, ds[i]? = some d ∧ Rp K G v d
  | _, _, _, _, .nil, e => by simp at e
  | _, _, 0, _, .cons r _, e => by simp at e; subst e; exact ⟨_, rfl, r⟩
  | _, _, i + 1, _, .cons _ t, e => by
    obtain ⟨v, h1, h2⟩ := RpAll.getV (i := i) t (by simpa using e)
    exact ⟨v, by simpa using h1, h2⟩
theorem RpAll.append : ∀ {vs ws : List V} {ds es : List D}, RpAll K G vs ds → RpAll K G ws es → RpAll K G (vs ++ ws) (ds ++ es)
  | _, _, _, _, .nil, s => s
  | _, _, _, _, .cons r t, s => .cons r (RpAll.append t s)
theorem RpAll.take : ∀ {vs : List V} {ds : List D} (n : Nat), RpAll K G vs ds → RpAll K G (vs.take n) (ds.take n)
  | _, _, 0, _ => .nil
  | _, _, _ + 1, .nil => .nil
  | _, _, n + 1, .cons r t => .cons r (RpAll.take n t)
theorem RpAll.drop : ∀ {vs : List V} {ds : List D} (n : Nat), RpAll K G vs ds → RpAll K G (vs.drop n) (ds.drop n)
  | _, _, 0, r => r
  | _, _, _ + 1, .nil => .nil
  | _, _, n + 1, .cons _ t => RpAll.drop n t
theorem RpAll.set {x : V} {u : D} (r : Rp K G x u) : ∀ {vs : List V} {ds : List D} (i : Nat), RpAll K G vs ds → RpAll K G (vs.set i x) (ds.set i u)
  | _, _, _, .nil => .nil
  | _, _, 0, .cons _ t => .cons r t
  | _, _, i + 1, .cons q t => .cons q (RpAll.set r i t)
end

/-- what stands at an address that changes -/
def MOk (K : PySem.W.Frag) (G : Hp) (o : Option HO) : MO → Prop
  | .lst ds => ∃ xs, o = some (.lst xs) ∧ RpAll K G xs ds ∧ ds.length ≤ sizeLine
  | .ins C fs => ∃ dx gs, o = some (.ins C dx gs) ∧ Paired (fun (p : Str × V) (q : Str × D) => p.1 = q.1 ∧ Rp K G p.2 q.2) gs fs
  | .dT kvs => ∃ gs, o = some (.dT gs) ∧ Paired (fun (p : List Key × V) (q : List Key × D) => p.1 = q.1 ∧ Rp K G p.2 q.2) gs kvs
  | .dK kvs => ∃ gs, o = some (.dK gs) ∧ Paired (fun (p : Key × V) (q : Key × D) => p.1 = q.1 ∧ Rp K G p.2 q.2) gs kvs
  | .draw => ∃ (a : Addr) (ns : List Int) (i j k : Int), o = some (.lst [.ref a, .int i, .int j, .int k]) ∧ G a = some (.lst (ns.map V.int)) ∧ ns.length ≤ 63 ∧ 0 ≤ i ∧ 0 ≤ j ∧ 0 ≤ k ∧ k < 2147483647
theorem MOk.mono {K : PySem.W.Frag} {G G' : Hp} (e : Same G G') {o : Option HO} : ∀ {m : MO}, MOk K G o m → MOk K G' o m
  | .lst ds, ⟨xs, h1, h2, h3⟩ => ⟨xs, h1, h2.mono e, h3⟩
  | .ins C fs, ⟨dx, gs, h1, h2⟩ => ⟨dx, gs, h1, Paired.mapP h2 fun _ _ z => ⟨z.1, z.2.mono e⟩⟩
  | .dT fs, ⟨gs, h1, h2⟩ => ⟨gs, h1, Paired.mapP h2 fun _ _ z => ⟨z.1, z.2.mono e⟩⟩
  | .dK fs, ⟨gs, h1, h2⟩ => ⟨gs, h1, Paired.mapP h2 fun _ _ z => ⟨z.1, z.2.mono e⟩⟩
  | .draw, ⟨a, ns, i, j, k, h1, h2, h3⟩ => ⟨a, ns, i, j, k, h1, e _ _ h2, h3⟩
theorem MOk.there {K : PySem.W.Frag} {G : Hp} {o : Option HO} : ∀ {m : MO}, MOk K G o m → ∃ u, o = some u
  | .lst ds, ⟨xs, h1, _⟩ => ⟨_, h1⟩
  | .ins C fs, ⟨dx, gs, h1, _⟩ => ⟨_, h1⟩
  | .dT fs, ⟨gs, h1, _⟩ => ⟨_, h1⟩
  | .dK fs, ⟨gs, h1, _⟩ => ⟨_, h1⟩
  | .draw, ⟨a, ns, i, j, k, h1, _⟩ => ⟨_, h1⟩
def Wd (K : PySem.W.Frag) (H : Hp) (μ : Mu) : Prop := ∀ a o, μ a = some o → MOk K (hide H μ) (H a) o
theorem Wd.free {K : PySem.W.Frag} {H : Hp} {μ : Mu} (w : Wd K H μ) {a : Addr} (h : H a = none) : μ a = none := by
  cases q : μ a with
  | none => rfl
  | some o =>
    obtain ⟨u, e⟩ := (w a o q).there
    rw [h] at e; cases e
/-- what holds behind a step: what does not change stands as it stood -/
structure Nx (K : PySem.W.Frag) (H : Hp) (μ : Mu) (H' : Hp) (μ' : Mu) : Prop where
  ext : Same (hide H μ) (hide H' μ')
  wd : Wd K H' μ'
theorem Nx.trans {K : PySem.W.Frag} {H H1 H2 : Hp} {μ μ1 μ2 : Mu} (a : Nx K H μ H1 μ1) (b : Nx K H1 μ1 H2 μ2) : Nx K H μ H2 μ2 := ⟨a.ext.trans b.ext, b.wd⟩
theorem Nx.refl {K : PySem.W.Frag} {H : Hp} {μ : Mu} (w : Wd K H μ) : Nx K H μ H μ := ⟨Same.refl _, w⟩
def Renv (K : PySem.W.Frag) (G : Hp) (σ : L2.St) (ρ : Env) : Prop := σ.length = ρ.length ∧ ∀ (i : Nat) (d : D), ρ[i]? = some (some d) → ∃ v, σ[i]? = some (some v) ∧ Rp K G v d
structure StOk (K : PySem.W.Frag) (H : Hp) (μ : Mu) (σ : L2.St) (ρ : Env) : Prop where
  env : Renv K (hide H μ) σ ρ
  wd : Wd K H μ
theorem StOk.next {K : PySem.W.Frag} {H H' : Hp} {μ μ' : Mu} {σ : L2.St} {ρ : Env} (s : StOk K H μ σ ρ) (n : Nx K H μ H' μ') : StOk K H' μ' σ ρ :=
  ⟨⟨s.env.1, fun i d e => let ⟨v, h1, h2⟩ := s.env.2 i d e; ⟨v, h1, h2.mono n.ext⟩⟩, n.wd⟩
theorem Renv.set {K : PySem.W.Frag} {G : Hp} {σ : L2.St} {ρ : Env} {v : V} {d : D} (r : Renv K G σ ρ) (q : Rp K G v d) (i : Nat) : Renv K G (σ.set i (some v)) (ρ.set i (some d)) := by
  refine ⟨by rw [List.length_set, List.length_set]; exact r.1, fun j e h => ?_⟩
  by_cases hj : i = j
  · subst hj
    by_cases hl : i < ρ.length
    · rw [List.getElem?_set_self hl] at h
      cases h
      exact ⟨v, by rw [List.getElem?_set_self (by rw [r.1]; exact hl)], q⟩
    · rw [List.getElem?_eq_none (by rw [List.length_set]; omega)] at h; cases h
  · rw [List.getElem?_set_ne hj] at h ⊢
    exact r.2 j e h
theorem StOk.set {K : PySem.W.Frag} {H : Hp} {μ : Mu} {σ : L2.St} {ρ : Env} {v : V} {d : D} (s : StOk K H μ σ ρ) (q : Rp K (hide H μ) v d) (i : Nat) : StOk K H μ (σ.set i (some v)) (ρ.set i (some d)) := ⟨s.env.set q i, s.wd⟩

/-! ### new things -/
theorem hide_upd {H : Hp} {μ : Mu} {p : Addr} {o : HO} (h : μ p = none) : hide (upd H p o) μ = upd (hide H μ) p o := by
  funext b; unfold hide upd
  by_cases e : b = p
  · subst e; simp [h]
  · simp [e]
theorem hide_put {H : Hp} {μ : Mu} {p : Addr} {o : HO} {m : MO} (h : μ p = none → H p = none) : hide (upd H p o) (μ.put p m) = hide H μ := by
  funext b; unfold hide upd Mu.put
  by_cases e : b = p
  · subst e
    cases q : μ b with
    | none => simp [h q]
    | some u => simp
  · simp [e]
/-- a new thing that does not change -/
theorem Nx.new {K : PySem.W.Frag} {H : Hp} {μ : Mu} {p : Addr} {o : HO} (w : Wd K H μ) (hp : H p = none) : Nx K H μ (upd H p o) μ := by
  have hm := w.free hp
  have ex : Same (hide H μ) (hide (upd H p o) μ) := by
    rw [hide_upd hm]
    intro b u hb
    rw [upd_ne (ne_of_none (hide_in hb) hp)]
    exact hb
  refine ⟨ex, fun a m h => ?_⟩
  have ne : a ≠ p := Mu.ne_of h hm
  rw [upd_ne ne]
  exact (w a m h).mono ex
theorem new_at {H : Hp} {μ : Mu} {p : Addr} {o : HO} (hm : μ p = none) : hide (upd H p o) μ p = some o := by rw [hide_upd hm]; exact upd_same
/-- a new thing that changes, or a change of it -/
theorem Nx.put {K : PySem.W.Frag} {H : Hp} {μ : Mu} {p : Addr} {o : HO} {m : MO} (w : Wd K H μ) (hp : μ p = none → H p = none) (hk : MOk K (hide H μ) (some o) m) : Nx K H μ (upd H p o) (μ.put p m) := by
  have e := hide_put (o := o) (m := m) hp
  refine ⟨by rw [e]; exact Same.refl _, fun a u h => ?_⟩
  rw [e]
  by_cases ea : a = p
  · subst ea
    rw [Mu.put_same] at h; cases h
    rw [upd_same]
    exact hk
  · rw [Mu.put_ne ea] at h
    rw [upd_ne ea]
    exact w a u h
/-- a list that changes no more -/
theorem Nx.frz {K : PySem.W.Frag} {H : Hp} {μ : Mu} {p : Addr} {ds : List D} (w : Wd K H μ) (hp : μ p = some (.lst ds)) : Nx K H μ H (μ.del p) ∧ Rp K (hide H (μ.del p)) (.ref p) (.lst ds) := by
  have ex : Same (hide H μ) (hide H (μ.del p)) := by
    intro b u hb
    obtain ⟨h1, h2⟩ := hide_some.mp hb
    refine hide_some.mpr ⟨?_, h2⟩
    unfold Mu.del
    split
    · rfl
    · exact h1
  refine ⟨⟨ex, fun a u h => ?_⟩, ?_⟩
  · have h' : μ a = some u := by
      unfold Mu.del at h
      split at h
      · cases h
      · exact h
    exact (w a u h').mono ex
  · obtain ⟨xs, e, r, z⟩ := w p _ hp
    exact .lst (hide_some.mpr ⟨by unfold Mu.del; rw [if_pos rfl], e⟩) (r.mono ex) z

/-! ### readings as wishes about data -/
section
variable {α β γ : Type}
abbrev TF (β : Type) := Env → Mu → (β → Mu → Prop) → Prop
def Lift (K : PySem.W.Frag) (R : Hp → α → β → Prop) (F : TF β) : L2.St → Hp → (α → Hp → Prop) → Prop := fun σ H Q =>
  ∃ (ρ : Env) (μ : Mu) (Qd : β → Mu → Prop), StOk K H μ σ ρ ∧ F ρ μ Qd ∧ ∀ d μ' v H', Qd d μ' → Nx K H μ H' μ' → R (hide H' μ') v d → Q v H'
theorem Lift.go {K : PySem.W.Frag} {R : Hp → α → β → Prop} {F : TF β} {σ : L2.St} {ρ : Env} {H : Hp} {μ : Mu} {G : β → Mu → Prop} {Q : α → Hp → Prop} (s : StOk K H μ σ ρ) (hf : F ρ μ G)
    (k : ∀ d μ' v H', G d μ' → StOk K H' μ' σ ρ → Nx K H μ H' μ' → R (hide H' μ') v d → Q v H') : Lift K R F σ H Q :=
  ⟨ρ, μ, G, s, hf, fun d μ' v H' g n r => k d μ' v H' g (s.next n) n r⟩
abbrev tD (K : PySem.W.Frag) (F : TF D) : TE := Lift K (fun G v d => Rp K G v d) F
def RB : Hp → Bool → Bool → Prop := fun _ b c => b = c
abbrev tDT (K : PySem.W.Frag) (F : TF Bool) : TT := Lift K RB F
abbrev tDA (K : PySem.W.Frag) (F : TF (List D)) : TA := Lift K (fun G vs ds => RpAll K G vs ds) F
abbrev tDO (K : PySem.W.Frag) (F : TF (Option Int)) : TO := Lift K (fun _ b c => b = c) F
end
abbrev DE (X : Cx) (e : Expr) (F : TF D) : Prop := PE X e (tD X.K F)
abbrev DT (X : Cx) (e : Expr) (F : TF Bool) : Prop := PT X e (tDT X.K F)
abbrev DW (X : Cx) (e : Expr) (F : TF Bool) : Prop := PW X e (tDT X.K F)
abbrev DA (X : Cx) (es : List Expr) (F : TF (List D)) : Prop := PA X es (tDA X.K F)
abbrev DO (X : Cx) (e : Option Expr) (F : TF (Option Int)) : Prop := PO X e (tDO X.K F)
section
variable {X : Cx}
theorem weakE {e : Expr} {t t' : TE} (h : PE X e t) (w : ∀ σ H Q, t' σ H Q → t σ H Q) : PE X e t' := ⟨fun pins s σ H Q I q => h.run pins s σ H Q I (w σ H Q q)⟩
theorem weakT {e : Expr} {t t' : TT} (h : PT X e t) (w : ∀ σ H Q, t' σ H Q → t σ H Q) : PT X e t' := ⟨fun pins s σ H Q I q => h.run pins s σ H Q I (w σ H Q q)⟩
theorem weakW {e : Expr} {t t' : TT} (h : PW X e t) (w : ∀ σ H Q, t' σ H Q → t σ H Q) : PW X e t' := ⟨fun wh pins s σ H Q I q => h.run wh pins s σ H Q I (w σ H Q q)⟩
theorem weakA {e : List Expr} {t t' : TA} (h : PA X e t) (w : ∀ σ H Q, t' σ H Q → t σ H Q) : PA X e t' := ⟨fun pos pins s σ H Q I q => h.run pos pins s σ H Q I (w σ H Q q)⟩
theorem weakO {e : Option Expr} {t t' : TO} (h : PO X e t) (w : ∀ σ H Q, t' σ H Q → t σ H Q) : PO X e t' := ⟨fun pins s σ H Q I q => h.run pins s σ H Q I (w σ H Q q)⟩
theorem weakS {e : Stmt} {t t' : TS} (h : PS X e t) (w : ∀ D σ H, t' D σ H → t D σ H) : PS X e t' := ⟨fun pins s σ H D I q => h.run pins s σ H D I (w D σ H q)⟩
theorem weakSs {e : List Stmt} {t t' : TS} (h : PSs X e t) (w : ∀ D σ H, t' D σ H → t D σ H) : PSs X e t' := ⟨fun pins s σ H D I q => h.run pins s σ H D I (w D σ H q)⟩
theorem weakI {tg e : Expr} {t t' : TI} (h : PI X tg e t) (w : ∀ σ H Q, t' σ H Q → t σ H Q) : PI X tg e t' := ⟨fun pins s σ H Q I q => h.run pins s σ H Q I (w σ H Q q)⟩
end

/-! ### names, constants -/
def dVar (i : Nat) : TF D := fun ρ μ Q => ∃ d, ρ[i]? = some (some d) ∧ Q d μ
def dC (d : D) : TF D := fun _ μ Q => Q d μ
section
variable {X : Cx} {pos : Pos}
theorem dv (i : Nat) {x : Str} (hN : X.N[i]? = some x := by rfl) (hv : Vis X.env.scope x := by first | exact Or.inl rfl | exact Or.inr (Or.inl rfl) | exact Or.inr (Or.inr rfl)) (hd : (x == ("__debug__" : Str)) = false := by decide)
    (hcd : (x == ("__classdict__" : Str)) = false := by decide) : DE X (.Name x pos) (dVar i) := by
  refine weakE (pe_var hN hv hd hcd) fun σ H Q ⟨ρ, μ, Qd, s, hf, k⟩ => ?_
  obtain ⟨d, e, q⟩ := hf
  obtain ⟨v, h1, h2⟩ := s.env.2 i d e
  exact ⟨v, h1, k d μ v H q (Nx.refl s.wd) h2⟩
theorem dC_of {e : Expr} {v : V} {d : D} (h : PE X e (tC v)) (r : ∀ G, Rp X.K G v d) : DE X e (dC d) := weakE h fun σ H Q ⟨ρ, μ, Qd, s, hf, k⟩ => k d μ v H hf (Nx.refl s.wd) (r _)
theorem de_int {i j} : DE X (.Constant (.int i) j pos) (dC (.int i)) := dC_of pe_int fun _ => .int i
theorem de_bl {b j} : DE X (.Constant (.bool b) j pos) (dC (.bl b)) := dC_of pe_bl fun _ => .bl b
theorem de_non {j} : DE X (.Constant .none j pos) (dC .non) := dC_of pe_non fun _ => .non
theorem de_str {x : Str} {j} (hz : SOk x := by decide +kernel) : DE X (.Constant (.str x) j pos) (dC (.str x)) := dC_of pe_str fun _ => .str x hz
theorem de_globS {x y : Str} {t : Tok} (hg : Gl X x) (hm : X.mg x = some (.str y t)) (hz : SOk y := by decide +kernel) (hd : (x == ("__debug__" : Str)) = false := by decide) : DE X (.Name x pos) (dC (.str y)) := dC_of (v := .str y) (pe_glob hg hm ⟨t, rfl⟩ hd) fun _ => .str y hz
theorem de_globI {x : Str} {i : Int} {t : Tok} (hg : Gl X x) (hm : X.mg x = some (.int i t)) (hd : (x == ("__debug__" : Str)) = false := by decide) : DE X (.Name x pos) (dC (.int i)) := dC_of (v := .int i) (pe_glob hg hm ⟨t, rfl⟩ hd) fun _ => .int i
/-- a built-in class as a value -/
theorem de_ty {x : Str} {n : String} (hg : Gl X x) (hm : X.mg x = none) (hv : bootBuiltins x = some (.type n)) (hn : x ≠ "__name__" := by decide) (hd : (x == ("__debug__" : Str)) = false := by decide) : DE X (.Name x pos) (dC (.ty n)) :=
  dC_of (v := .ty n) (pe_bltn hg hm hv rfl hn hd) fun _ => .ty n
end

/-! ### operators -/
section
variable {X : Cx} {pos : Pos} {a b : Expr} {Fa Fb : TF D}
abbrev F2 := Mu → D → D → (D → Prop) → Prop
def dOp (f : F2) (Fa Fb : TF D) : TF D := fun ρ μ Q => Fa ρ μ fun x μ1 => Fb ρ μ1 fun y μ2 => f μ2 x y fun z => Q z μ2
def OpD (K : PySem.W.Frag) (r : R2) (f : F2) : Prop := ∀ (x y : D) (vx vy : V) (H : Hp) (μ : Mu) (P : D → Prop) (Q : VK), Wd K H μ → Rp K (hide H μ) vx x → Rp K (hide H μ) vy y → f μ x y P →
  (∀ z vz H', P z → Nx K H μ H' μ → Rp K (hide H' μ) vz z → Q vz H') → r vx vy H Q
theorem op_go {σ : L2.St} {H : Hp} {Q : VK} {f : F2} {r : R2} {K : PySem.W.Frag} (ho : OpD K r f) (h : tD K (dOp f Fa Fb) σ H Q) : tOp r (tD K Fa) (tD K Fb) σ H Q := by
  obtain ⟨ρ, μ, Qd, s, hf, k⟩ := h
  refine Lift.go s hf fun x μ1 vx H1 g1 s1 n1 r1 => Lift.go s1 g1 fun y μ2 vy H2 g2 s2 n2 r2 => ?_
  exact ho x y vx vy H2 μ2 _ _ s2.wd (r1.mono n2.ext) r2 g2 fun z vz H3 p n3 r3 => k z μ2 vz H3 p ((n1.trans n2).trans n3) r3
theorem de_op {op : Operator} {r : R2} {f : F2} (hr : OpR X (binaryOp op) r) (ho : OpD X.K r f) (ha : DE X a Fa) (hb : DE X b Fb) : DE X (.BinOp a op b pos) (dOp f Fa Fb) := weakE (pe_op hr ha hb) fun _ _ _ h => op_go ho h
theorem de_cmp {op : CmpOp} {r : R2} {f : F2} (hr : OpR X (compareOp op) r) (ho : OpD X.K r f) (ha : DE X a Fa) (hb : DE X b Fb) (hm : behindInMarks op b = false) : DE X (.Compare a [op] [b] pos) (dOp f Fa Fb) := weakE (pe_cmpR hr ha hb hm) fun _ _ _ h => op_go ho h
theorem de_ix {r : R2} {f : F2} (hr : IxR X r) (ho : OpD X.K r f) (ha : DE X a Fa) (hb : DE X b Fb) (hs : PlainIx b) : DE X (.Subscript a b pos) (dOp f Fa Fb) := weakE (pe_ix hr ha hb hs) fun _ _ _ h => op_go ho h
/-- a test of a comparison -/
def dTest (F : TF D) : TF Bool := fun ρ μ Q => F ρ μ fun d μ1 => ∃ b, d = .bl b ∧ Q b μ1
theorem dt_cmp {op : CmpOp} {r : R2} {f : F2} (hr : OpR X (compareOp op) r) (ho : OpD X.K r f) (ha : DE X a Fa) (hb : DE X b Fb) (hm : behindInMarks op b = false) : DT X (.Compare a [op] [b] pos) (dTest (dOp f Fa Fb)) :=
  weakT (pt_cmpR hr ha hb hm) fun σ H Q ⟨ρ, μ, Qd, s, hf, k⟩ => op_go ho ⟨ρ, μ, _, s, hf, fun d μ1 v H1 ⟨c, e, g⟩ n r => by
    subst e; cases r; exact ⟨c, rfl, k c μ1 c H1 g n rfl⟩⟩
end

/-! ### and, or, not, if -/
section
variable {X : Cx} {pos : Pos} {a b e : Expr} {rest : List Expr} {Fa Fb : TF D} {A B : TF Bool}
def dAnd (A B : TF Bool) : TF Bool := fun ρ μ Q => A ρ μ fun c μ1 => if c = true then B ρ μ1 Q else Q false μ1
def dOr (A B : TF Bool) : TF Bool := fun ρ μ Q => A ρ μ fun c μ1 => if c = true then Q true μ1 else B ρ μ1 Q
def dNot (A : TF Bool) : TF Bool := fun ρ μ Q => A ρ μ fun c μ1 => Q (!c) μ1
theorem dw_and1 (ha : DT X a A) : DW X (.BoolOp .And [a] pos) A := pw_and1 ha
theorem dw_or1 (ha : DT X a A) : DW X (.BoolOp .Or [a] pos) A := pw_or1 ha
theorem dw_and (ha : DT X a A) (hb : DW X (.BoolOp .And (b :: rest) pos) B) : DW X (.BoolOp .And (a :: b :: rest) pos) (dAnd A B) := by
  refine weakW (pw_and ha hb) fun σ H Q ⟨ρ, μ, Qd, s, hf, k⟩ => Lift.go (F := A) (R := RB) s hf fun c μ1 v H1 g s1 n1 e1 => ?_
  cases (show v = c from e1)
  cases c with
  | true => exact Lift.go s1 g fun d μ2 w H2 g2 s2 n2 e2 => k d μ2 w H2 g2 (n1.trans n2) e2
  | false => exact k false μ1 false H1 g n1 rfl
theorem dw_or (ha : DT X a A) (hb : DW X (.BoolOp .Or (b :: rest) pos) B) : DW X (.BoolOp .Or (a :: b :: rest) pos) (dOr A B) := by
  refine weakW (pw_or ha hb) fun σ H Q ⟨ρ, μ, Qd, s, hf, k⟩ => Lift.go (F := A) (R := RB) s hf fun c μ1 v H1 g s1 n1 e1 => ?_
  cases (show v = c from e1)
  cases c with
  | true => exact k true μ1 true H1 g n1 rfl
  | false => exact Lift.go s1 g fun d μ2 w H2 g2 s2 n2 e2 => k d μ2 w H2 g2 (n1.trans n2) e2
theorem dw_pt (h : DW X e A) : DT X e A := h.pt
theorem dt_not (ha : DT X a A) : DT X (.UnaryOp .Not a pos) (dNot A) :=
  weakT (pt_not ha) fun σ H Q ⟨ρ, μ, Qd, s, hf, k⟩ => Lift.go (F := A) (R := RB) s hf fun c μ1 v H1 g s1 n1 e1 => by cases (show v = c from e1); exact k _ μ1 _ H1 g n1 rfl
/-- an expression that gives a truth value, as a test -/
theorem dt_val {F : TF D} (h : DE X e F) (he : ∀ whole, isTrue e X.env whole = (do let v ← whole; standAt e.pos; holding [v] (truthy v)) := by intro _; rfl) : DT X e (dTest F) :=
  weakT (pt_val h he) fun σ H Q ⟨ρ, μ, Qd, s, hf, k⟩ => Lift.go s hf fun d μ1 v H1 ⟨c, e, g⟩ s1 n1 r => by subst e; cases r; exact ⟨c, rfl, k c μ1 c H1 g n1 rfl⟩
/-- a test of any value by its truth -/
def truD : D → Option Bool
  | .non => some false
  | .bl b => some b
  | .int i => some (i != 0)
  | .str s => some (((s.length : Nat) : Int) != 0)
  | .tup ds => some (!ds.isEmpty)
  | .lst ds => some (!ds.isEmpty)
  | _ => none
def dTru (F : TF D) : TF Bool := fun ρ μ Q => F ρ μ fun d μ1 => ∃ b, truD d = some b ∧ Q b μ1
theorem RpAll.empty {K : PySem.W.Frag} {G : Hp} {vs : List V} {ds : List D} (r : RpAll K G vs ds) : vs.isEmpty = ds.isEmpty := by cases r <;> rfl
theorem truV_of {K : PySem.W.Frag} {H : Hp} {μ : Mu} {v : V} {d : D} {b : Bool} (r : Rp K (hide H μ) v d) (h : truD d = some b) : TruV K v H b := by
  cases r with
  | non => cases h; rfl
  | bl c => cases h; rfl
  | int i => cases h; rfl
  | str x hz => cases h; exact ⟨hz.1, rfl⟩
  | tup ha hr hz => cases h; exact .inr (.inl ⟨_, SqT.of (hide_in ha), by rw [hr.empty]⟩)
  | lst ha hr hz => cases h; exact .inl ⟨_, SqL.of (hide_in ha), by rw [hr.empty]⟩
  | ptr a => cases h
  | scr _ => cases h
  | ty _ => cases h
  | exn _ _ => cases h
theorem dt_tru {F : TF D} (h : DE X e F) (he : ∀ whole, isTrue e X.env whole = (do let v ← whole; standAt e.pos; holding [v] (truthy v)) := by intro _; rfl) : DT X e (dTru F) :=
  weakT (pt_truth h he) fun σ H Q ⟨ρ, μ, Qd, s, hf, k⟩ => Lift.go s hf fun d μ1 v H1 ⟨c, e, g⟩ s1 n1 r => ⟨c, truV_of r e, k c μ1 c H1 g n1 rfl⟩
def dAndV (Fa Fb : TF D) : TF D := fun ρ μ Q => Fa ρ μ fun d μ1 => ∃ c, d = .bl c ∧ if c = true then Fb ρ μ1 Q else Q (.bl false) μ1
def dOrV (Fa Fb : TF D) : TF D := fun ρ μ Q => Fa ρ μ fun d μ1 => ∃ c, d = .bl c ∧ if c = true then Q (.bl true) μ1 else Fb ρ μ1 Q
def dNotV (Fa : TF D) : TF D := fun ρ μ Q => Fa ρ μ fun d μ1 => ∃ c, d = .bl c ∧ Q (.bl (!c)) μ1
theorem de_one {op} (h : DE X a Fa) : DE X (.BoolOp op [a] pos) Fa := pe_one h
theorem de_and (ha : DE X a Fa) (hb : DE X (.BoolOp .And (b :: rest) pos) Fb) : DE X (.BoolOp .And (a :: b :: rest) pos) (dAndV Fa Fb) := by
  refine weakE (pe_and ha hb) fun σ H Q ⟨ρ, μ, Qd, s, hf, k⟩ => Lift.go s hf fun d μ1 v H1 ⟨c, e, g⟩ s1 n1 r => ?_
  subst e; cases r
  refine ⟨c, rfl, ?_⟩
  cases c with
  | true => exact Lift.go s1 g fun d μ2 w H2 g2 s2 n2 r2 => k d μ2 w H2 g2 (n1.trans n2) r2
  | false => exact k _ μ1 _ H1 g n1 (.bl false)
theorem de_or (ha : DE X a Fa) (hb : DE X (.BoolOp .Or (b :: rest) pos) Fb) : DE X (.BoolOp .Or (a :: b :: rest) pos) (dOrV Fa Fb) := by
  refine weakE (pe_or ha hb) fun σ H Q ⟨ρ, μ, Qd, s, hf, k⟩ => Lift.go s hf fun d μ1 v H1 ⟨c, e, g⟩ s1 n1 r => ?_
  subst e; cases r
  refine ⟨c, rfl, ?_⟩
  cases c with
  | false => exact Lift.go s1 g fun d μ2 w H2 g2 s2 n2 r2 => k d μ2 w H2 g2 (n1.trans n2) r2
  | true => exact k _ μ1 _ H1 g n1 (.bl true)
theorem de_not (ha : DE X a Fa) : DE X (.UnaryOp .Not a pos) (dNotV Fa) := by
  refine weakE (pe_not ha) fun σ H Q ⟨ρ, μ, Qd, s, hf, k⟩ => Lift.go s hf fun d μ1 v H1 ⟨c, e, g⟩ s1 n1 r => ?_
  subst e; cases r
  exact ⟨c, rfl, k _ μ1 _ H1 g n1 (.bl _)⟩
def dIf (A : TF Bool) (Fa Fb : TF D) : TF D := fun ρ μ Q => A ρ μ fun c μ1 => if c = true then Fa ρ μ1 Q else Fb ρ μ1 Q
theorem de_if {c : Expr} (hc : DT X c A) (ha : DE X a Fa) (hb : DE X b Fb) : DE X (.IfExp c a b pos) (dIf A Fa Fb) := by
  refine weakE (pe_ifExp hc ha hb) fun σ H Q ⟨ρ, μ, Qd, s, hf, k⟩ => Lift.go (F := A) (R := RB) s hf fun c μ1 v H1 g s1 n1 e1 => ?_
  cases (show v = c from e1)
  cases c with
  | true => exact Lift.go s1 g fun d μ2 w H2 g2 s2 n2 r2 => k d μ2 w H2 g2 (n1.trans n2) r2
  | false => exact Lift.go s1 g fun d μ2 w H2 g2 s2 n2 r2 => k d μ2 w H2 g2 (n1.trans n2) r2
end

/-! ### arguments, displays -/
section
variable {X : Cx} {pos : Pos} {e : Expr} {es : List Expr} {F : TF D} {A : TF (List D)}
def aNil : TF (List D) := fun _ μ Q => Q [] μ
def aCons (F : TF D) (A : TF (List D)) : TF (List D) := fun ρ μ Q => F ρ μ fun d μ1 => A ρ μ1 fun ds μ2 => Q (d :: ds) μ2
theorem da_nil : DA X [] aNil := weakA pa_nil fun σ H Q ⟨ρ, μ, Qd, s, hf, k⟩ => k [] μ [] H hf (Nx.refl s.wd) .nil
theorem da_cons (h : DE X e F) (hr : DA X es A) (hs : starEach (e :: es) X.env = (false, eval e X.env) :: starEach es X.env := by rfl) : DA X (e :: es) (aCons F A) :=
  weakA (pa_cons h hr hs) fun σ H Q ⟨ρ, μ, Qd, s, hf, k⟩ => Lift.go s hf fun d μ1 v H1 g1 s1 n1 r1 => Lift.go s1 g1 fun ds μ2 vs H2 g2 s2 n2 r2 => k _ μ2 _ H2 g2 (n1.trans n2) (.cons (r1.mono n2.ext) r2)
def dTup (A : TF (List D)) : TF D := fun ρ μ Q => A ρ μ fun ds μ1 => ds.length ≤ sizeLine ∧ Q (.tup ds) μ1
def dLst (A : TF (List D)) : TF D := fun ρ μ Q => A ρ μ fun ds μ1 => ds.length ≤ sizeLine ∧ Q (.lst ds) μ1
/-- a list that will change -/
def dLstM (A : TF (List D)) : TF D := fun ρ μ Q => A ρ μ fun ds μ1 => ds.length ≤ sizeLine ∧ ∀ p, μ1 p = none → Q (.ptr p) (μ1.put p (.lst ds))
theorem de_tup {x1} (h : DA X es A) : DE X (.Tuple es x1 pos) (dTup A) :=
  weakE (pe_tup h) fun σ H Q ⟨ρ, μ, Qd, s, hf, k⟩ => Lift.go s hf fun ds μ1 vs H1 ⟨z, g⟩ s1 n1 r => ⟨by rw [r.length]; exact z, fun p hp => by
    have n2 : Nx X.K H1 μ1 (upd H1 p (.tup vs)) μ1 := Nx.new s1.wd hp
    exact k _ μ1 _ _ g (n1.trans n2) (.tup (new_at (s1.wd.free hp)) (r.mono n2.ext) z)⟩
theorem de_lst (h : DA X es A) : DE X (.List es pos) (dLst A) :=
  weakE (pe_lst h) fun σ H Q ⟨ρ, μ, Qd, s, hf, k⟩ => Lift.go s hf fun ds μ1 vs H1 ⟨z, g⟩ s1 n1 r => ⟨by rw [r.length]; exact z, fun p hp => by
    have n2 : Nx X.K H1 μ1 (upd H1 p (.lst vs)) μ1 := Nx.new s1.wd hp
    exact k _ μ1 _ _ g (n1.trans n2) (.lst (new_at (s1.wd.free hp)) (r.mono n2.ext) z)⟩
theorem de_lstM (h : DA X es A) : DE X (.List es pos) (dLstM A) :=
  weakE (pe_lst h) fun σ H Q ⟨ρ, μ, Qd, s, hf, k⟩ => Lift.go s hf fun ds μ1 vs H1 ⟨z, g⟩ s1 n1 r => ⟨by rw [r.length]; exact z, fun p hp => by
    have n2 : Nx X.K H1 μ1 (upd H1 p (.lst vs)) (μ1.put p (.lst ds)) := Nx.put s1.wd (fun _ => hp) ⟨vs, rfl, r, z⟩
    exact k _ _ _ _ (g p (s1.wd.free hp)) (n1.trans n2) (.ptr p)⟩
end

/-! ### calls -/
section
variable {X : Cx}
/-- a def's wish: of its arguments and the objects, what is wanted behind it -/
abbrev CT := List D → Mu → (D → Mu → Prop) → Prop
def spD (K : PySem.W.Frag) (C : CT) : Sp := fun vs H Q _ => ∃ (ds : List D) (μ : Mu) (Qd : D → Mu → Prop), RpAll K (hide H μ) vs ds ∧ Wd K H μ ∧ C ds μ Qd ∧ ∀ d μ' v H', Qd d μ' → Nx K H μ H' μ' → Rp K (hide H' μ') v d → Q v H'
def dCall (C : CT) (A : TF (List D)) : TF D := fun ρ μ Q => A ρ μ fun ds μ1 => C ds μ1 Q
theorem call_go {σ : L2.St} {H : Hp} {Q : VK} {K : PySem.W.Frag} {C : CT} {A : TF (List D)} {E : XK} (h : tD K (dCall C A) σ H Q) : tCall (spD K C) [] E (tDA K A) σ H Q := by
  obtain ⟨ρ, μ, Qd, s, hf, k⟩ := h
  refine Lift.go s hf fun ds μ1 vs H1 g s1 n1 r => ?_
  refine ⟨ds, μ1, Qd, by rw [List.append_nil]; exact r, s1.wd, g, fun d μ' v H' q n r => k d μ' v H' q (n1.trans n) r⟩
theorem de_call {k : Nat} {f : Addr} {fd : FuncData} {ps : List Str} {C : CT} {CX : CXT} {E : XK} {x : Str} {p pos : Pos} {e : Expr} {es : List Expr} {A : TF (List D)} (F : FnOk X.prog X.w X.K X.mg X.base CX k f fd ps (spD X.K C)) (hr : Room k X.A) (hg : Gl X x) (hm : X.mg x = some (.ref f)) (hk : PySem.W.keepIn X.K (.ref f) = true) (hb : Binds X.K fd ps []) (hx : Passes CX X E)
    (ha : DA X (e :: es) A) (hdb : (x == ("__debug__" : Str)) = false := by decide) (he : starEach (e :: es) X.env = (false, eval e X.env) :: starEach es X.env := by rfl) (hpl : (backTo pos (starEach es X.env)).any (·.1) = false := by rfl) :
    DE X (.Call (.Name x p) (e :: es) [] pos) (dCall C A) := weakE (pe_call F hr hg hm hk hb .nil hx ha hdb he hpl) fun _ _ _ h => call_go h
end

/-! ### statements -/
structure EndsD where
  nx : Env → Mu → Prop
  rt : D → Mu → Prop
  bk : Env → Mu → Prop := fun _ _ => False
  ct : Env → Mu → Prop := fun _ _ => False
structure Conn (K : PySem.W.Frag) (H : Hp) (μ : Mu) (E : EndsD) (D' : Ends) : Prop where
  nx : ∀ ρ' μ' σ' H', E.nx ρ' μ' → StOk K H' μ' σ' ρ' → Nx K H μ H' μ' → D'.nx σ' H'
  rt : ∀ d μ' v H', E.rt d μ' → Nx K H μ H' μ' → Rp K (hide H' μ') v d → D'.rt v H'
  bk : ∀ ρ' μ' σ' H', E.bk ρ' μ' → StOk K H' μ' σ' ρ' → Nx K H μ H' μ' → D'.bk σ' H'
  ct : ∀ ρ' μ' σ' H', E.ct ρ' μ' → StOk K H' μ' σ' ρ' → Nx K H μ H' μ' → D'.ct σ' H'
theorem Conn.after {K : PySem.W.Frag} {H H1 : Hp} {μ μ1 : Mu} {E : EndsD} {D' : Ends} (c : Conn K H μ E D') (n : Nx K H μ H1 μ1) : Conn K H1 μ1 E D' :=
  ⟨fun ρ' μ' σ' H' e s m => c.nx ρ' μ' σ' H' e s (n.trans m), fun d μ' v H' e m r => c.rt d μ' v H' e (n.trans m) r, fun ρ' μ' σ' H' e s m => c.bk ρ' μ' σ' H' e s (n.trans m), fun ρ' μ' σ' H' e s m => c.ct ρ' μ' σ' H' e s (n.trans m)⟩
abbrev TSD := EndsD → Env → Mu → Prop
def tDS (K : PySem.W.Frag) (G : TSD) : TS := fun D' σ H => ∃ (ρ : Env) (μ : Mu) (E : EndsD), StOk K H μ σ ρ ∧ G E ρ μ ∧ Conn K H μ E D'
abbrev DS (X : Cx) (st : Stmt) (G : TSD) : Prop := PS X st (tDS X.K G)
abbrev DSs (X : Cx) (st : List Stmt) (G : TSD) : Prop := PSs X st (tDS X.K G)
section
variable {X : Cx} {pos : Pos} {st : Stmt} {rest : List Stmt} {G1 G2 : TSD} {e : Expr} {F : TF D}
def sNext : TSD := fun E ρ μ => E.nx ρ μ
def sSeq (G1 G2 : TSD) : TSD := fun E ρ μ => G1 { E with nx := G2 E } ρ μ
theorem dss_nil : DSs X [] sNext := weakSs pss_nil fun D' σ H ⟨ρ, μ, E, s, g, c⟩ => c.nx ρ μ σ H g s (Nx.refl s.wd)
theorem dss_one (h : DS X st G1) : DSs X [st] G1 := pss_one h
theorem dss_cons (h1 : DS X st G1) (h2 : DSs X rest G2) : DSs X (st :: rest) (sSeq G1 G2) :=
  weakSs (pss_cons h1 h2) fun D' σ H ⟨ρ, μ, E, s, g, c⟩ => ⟨ρ, μ, { E with nx := G2 E }, s, g, ⟨fun ρ' μ' σ' H' g' s' n => ⟨ρ', μ', E, s', g', c.after n⟩, c.rt, c.bk, c.ct⟩⟩
theorem ds_pass : DS X (.Pass pos) sNext := weakS ps_pass fun D' σ H ⟨ρ, μ, E, s, g, c⟩ => c.nx ρ μ σ H g s (Nx.refl s.wd)
def sBreak : TSD := fun E ρ μ => E.bk ρ μ
def sCont : TSD := fun E ρ μ => E.ct ρ μ
theorem ds_break : DS X (.Break pos) sBreak := weakS ps_break fun D' σ H ⟨ρ, μ, E, s, g, c⟩ => c.bk ρ μ σ H g s (Nx.refl s.wd)
theorem ds_continue : DS X (.Continue pos) sCont := weakS ps_continue fun D' σ H ⟨ρ, μ, E, s, g, c⟩ => c.ct ρ μ σ H g s (Nx.refl s.wd)
def sNever : TSD := fun _ _ _ => False
theorem ds_never : DS X st sNever := weakS ps_never fun D' σ H ⟨ρ, μ, E, s, g, c⟩ => g
def sDrop (F : TF D) : TSD := fun E ρ μ => F ρ μ fun _ μ1 => E.nx ρ μ1
theorem ds_expr (h : DE X e F) (hs : swapsWith e none pos.line X.env = pure false := by rfl) : DS X (.Expr e pos) (sDrop F) :=
  weakS (ps_expr h hs) fun D' σ H ⟨ρ, μ, E, s, g, c⟩ => Lift.go s g fun d μ1 v H1 g1 s1 n1 r1 => c.nx ρ μ1 σ H1 g1 s1 n1
def sRet (F : TF D) : TSD := fun E ρ μ => F ρ μ E.rt
theorem ds_ret (h : DE X e F) : DS X (.Return (some e) pos) (sRet F) :=
  weakS (ps_ret h) fun D' σ H ⟨ρ, μ, E, s, g, c⟩ => Lift.go s g fun d μ1 v H1 g1 s1 n1 r1 => c.rt d μ1 v H1 g1 n1 r1
/-- a list that changed is handed back, and changes no more -/
def dFrz (F : TF D) : TF D := fun ρ μ Q => F ρ μ fun d μ1 => ∃ p ds, d = .ptr p ∧ μ1 p = some (.lst ds) ∧ Q (.lst ds) (μ1.del p)
theorem de_frz (h : DE X e F) : DE X e (dFrz F) :=
  weakE h fun σ H Q ⟨ρ, μ, Qd, s, hf, k⟩ => Lift.go s hf fun d μ1 v H1 ⟨p, ds, e, hp, g⟩ s1 n1 r1 => by
    subst e; cases r1
    obtain ⟨n2, r2⟩ := Nx.frz s1.wd hp
    exact k _ _ _ H1 g (n1.trans n2) r2
def sRetN : TSD := fun E _ μ => E.rt .non μ
theorem ds_retN : DS X (.Return none pos) sRetN := weakS ps_retN fun D' σ H ⟨ρ, μ, E, s, g, c⟩ => c.rt .non μ .non H g (Nx.refl s.wd) .non
def sIf (A : TF Bool) (G1 G2 : TSD) : TSD := fun E ρ μ => A ρ μ fun b μ1 => if b = true then G1 E ρ μ1 else G2 E ρ μ1
theorem ds_if {c : Expr} {a b : List Stmt} {A : TF Bool} (hc : DT X c A) (ha : DSs X a G1) (hb : DSs X b G2) : DS X (.If c a b pos) (sIf A G1 G2) :=
  weakS (ps_if hc ha hb) fun D' σ H ⟨ρ, μ, E, s, g, c⟩ => Lift.go (F := A) (R := RB) s g fun d μ1 v H1 g1 s1 n1 e1 => by
    cases (show v = d from e1)
    cases d with
    | true => exact ⟨ρ, μ1, E, s1, g1, c.after n1⟩
    | false => exact ⟨ρ, μ1, E, s1, g1, c.after n1⟩
def sSet (i : Nat) (F : TF D) : TSD := fun E ρ μ => F ρ μ fun d μ1 => E.nx (ρ.set i (some d)) μ1
theorem ds_set (i : Nat) {x : Str} {pos' : Pos} (hN : X.N.Nodup) (h : DE X e F) (hi : X.N[i]? = some x := by rfl) (hx : Loc X.env.scope x := by first | exact Or.inl rfl | exact Or.inr rfl) (hs : swapsWith e (some (.Name x pos')) pos.line X.env = pure false := by rfl) (hf : X.fn x = true ∨ X.env.scope.names.lookup x = some .local := by first | exact .inl rfl | exact .inr rfl | assumption) :
    DS X (.Assign [.Name x pos'] e pos) (sSet i F) :=
  weakS (ps_set hN hi hx h hs hf) fun D' σ H ⟨ρ, μ, E, s, g, c⟩ => Lift.go s g fun d μ1 v H1 g1 s1 n1 r1 => c.nx _ μ1 _ H1 g1 (s1.set r1 i) n1
/-- the list in slot i changes no more -/
def sFrz (i : Nat) (G : TSD) : TSD := fun E ρ μ => ∃ p ds, ρ[i]? = some (some (.ptr p)) ∧ μ p = some (.lst ds) ∧ G E (ρ.set i (some (.lst ds))) (μ.del p)
theorem set_get_self {α : Type} {l : List α} {i : Nat} {a : α} (h : l[i]? = some a) : l.set i a = l := by
  obtain ⟨hl, e⟩ := List.getElem?_eq_some_iff.mp h
  subst e
  exact List.set_getElem_self hl
theorem dss_frz (i : Nat) {sts : List Stmt} (h : DSs X sts G1) : DSs X sts (sFrz i G1) :=
  weakSs h fun D' σ H ⟨ρ, μ, E, s, ⟨p, ds, e, hp, g⟩, c⟩ => by
    obtain ⟨n, r⟩ := Nx.frz s.wd hp
    refine ⟨_, _, E, ?_, g, c.after n⟩
    obtain ⟨v, hv, rv⟩ := s.env.2 i _ e
    cases rv
    have := (s.next n).set r i
    rw [set_get_self hv] at this
    exact this
end

/-! ### a def -/
def startD (N : List Str) (ds : List D) : Env := ds.map some ++ List.replicate (N.length - ds.length) none
theorem renv_start {K : PySem.W.Frag} {G : Hp} {N : List Str} {vs : List V} {ds : List D} (r : RpAll K G vs ds) : Renv K G (L2.start N vs) (startD N ds) := by
  refine ⟨by unfold L2.start startD; rw [List.length_append, List.length_append, List.length_map, List.length_map, List.length_replicate, List.length_replicate, r.length], fun i d h => ?_⟩
  unfold startD at h
  unfold L2.start
  by_cases hi : i < ds.length
  · rw [List.getElem?_append_left (by rw [List.length_map]; exact hi), List.getElem?_map] at h
    rw [List.getElem?_append_left (by rw [List.length_map, r.length]; exact hi), List.getElem?_map]
    cases q : ds[i]? with
    | none => rw [q] at h; cases h
    | some e =>
      rw [q] at h; cases h
      obtain ⟨v, h1, h2⟩ := r.get q
      exact ⟨v, by rw [h1]; rfl, h2⟩
  · rw [List.getElem?_append_right (by rw [List.length_map]; omega), List.getElem?_replicate] at h
    split at h <;> cases h
theorem Fun.okD {P : Program} {w : World} {K : PySem.W.Frag} {mg : Str → Option Value} {base : Heap} {x qual : Str} {st : Stmt} {f : Addr} {fd : FuncData} {N ps : List Str} {k : Nat} {C : CT} {G : TSD} (F : L2.Fun K x qual st f fd) (S : FnScope N ps (defScope st))
    (body : ∀ (cdv : Value) (A : Around) (outer : List PySem.Env) (s : Shared) (H : Hp) (E : XK), Room k (A.deeper (PyProof.Rows.envOfC qual (defScope st) s.heap.objs.size f cdv)) → DSs (cxOf CX0 P w K mg base N qual (defScope st) f cdv A outer s H E).nox (defBody st) G)
    (len : ∀ ds μ Q, C ds μ Q → ds.length = ps.length)
    (h : ∀ ds μ Q, C ds μ Q → G { nx := fun _ μ' => Q .non μ', rt := Q } (startD N ds) μ) : FnOk P w K mg base CX0 (k + 1) f fd ps (spD K C) := by
  refine F.ok S (fun vs H Q E ⟨ds, μ, Qd, r, _, c, _⟩ => r.length.trans (len ds μ Qd c)) fun cdv A outer s H vs Q E hr ⟨ds, μ, Qd, r, w', c, kk⟩ => ?_
  refine ⟨_, body cdv A outer s H E hr, startD N ds, μ, _, ⟨renv_start r, w'⟩, h ds μ Qd c, ⟨fun ρ' μ' σ' H' g s' n => kk .non μ' .non H' g n .non, fun d μ' v H' g n r' => kk d μ' v H' g n r', fun _ _ _ _ z => z.elim, fun _ _ _ _ z => z.elim⟩⟩
end DL
end

-- part DL2
section
namespace DL
open PySem L2

/-! ### operators by data -/
section
variable {K : PySem.W.Frag}
theorem OpD.or {r r' : R2} {f f' g : F2} (h : OpD K r f) (h' : OpD K r' f') (sp : ∀ μ x y P, g μ x y P → f μ x y P ∨ f' μ x y P) : OpD K (fun x y H Q => r x y H Q ∨ r' x y H Q) g :=
  fun x y vx vy H μ P Q w rx ry q k => (sp μ x y P q).elim (fun z => .inl (h x y vx vy H μ P Q w rx ry z k)) fun z => .inr (h' x y vx vy H μ P Q w rx ry z k)
/-- two ints -/
def fII (C : Int → Int → Prop) (g : Int → Int → D) : F2 := fun _ x y P => match x, y with
  | .int i, .int j => C i j ∧ P (g i j)
  | _, _ => False
def isSc : D → Bool
  | .int _ => true
  | .bl _ => true
  | _ => false
def vOf : D → V
  | .int i => .int i
  | .bl b => .bl b
  | _ => .non
theorem od_ii {C : Int → Int → Prop} {g : Int → Int → D} {gv : Int → Int → V} (hg : ∀ i j G, Rp K G (gv i j) (g i j)) : OpD K (rI C gv) (fII C g) := by
  intro x y vx vy H μ P Q w rx ry q k
  cases rx <;> try exact q.elim
  cases ry <;> try exact q.elim
  exact ⟨_, _, rfl, rfl, q.1, k _ _ H q.2 (Nx.refl w) (hg _ _ _)⟩
theorem od_ii0 {g : Int → Int → D} {gv : Int → Int → V} (hg : ∀ i j G, Rp K G (gv i j) (g i j)) : OpD K (rI0 gv) (fII (fun _ _ => True) g) := by
  intro x y vx vy H μ P Q w rx ry q k
  cases rx <;> try exact q.elim
  cases ry <;> try exact q.elim
  exact ⟨_, _, rfl, rfl, k _ _ H q.2 (Nx.refl w) (hg _ _ _)⟩
def fAdd : F2 := fun _ x y P => match x, y with
  | .int i, .int j => P (.int (i + j))
  | .str a, .str b => a.length + b.length ≤ sizeLine ∧ P (.str (a ++ b))
  | .lst a, .lst b => a.length + b.length ≤ sizeLine ∧ P (.lst (a ++ b))
  | .tup a, .tup b => a.length + b.length ≤ sizeLine ∧ P (.tup (a ++ b))
  | _, _ => False
theorem sok_add {a b : Str} (ha : SOk a) (hb : SOk b) (h : a.length + b.length ≤ sizeLine) : SOk (a ++ b) := by
  refine ⟨?_, ?_⟩
  · show (a.cps ++ b.cps).size ≤ _
    rw [Array.size_append]
    exact h
  · show (a.cps ++ b.cps).all _ = true
    rw [Array.all_append, Bool.and_eq_true]
    exact ⟨ha.2, hb.2⟩
theorem str_len_add (a b : Str) : (a ++ b).length = a.length + b.length := by
  show (a.cps ++ b.cps).size = a.cps.size + b.cps.size
  simp
def rAddD (K : PySem.W.Frag) : R2 := fun x y H Q => (rI0 fun i j => .int (i + j)) x y H Q ∨ (fun x y H Q => (∃ i j, x = V.str i ∧ y = V.str j ∧ i.length + j.length ≤ sizeLine ∧ Q (.str (i ++ j)) H) ∨ ((rCat x y H Q) ∨ rCatA K x y H Q)) x y H Q
theorem op_addD {X : Cx} : OpR X (binaryOp .Add) (rAddD X.K) := op_add.or (op_add_str.or (op_cat.or op_catA))
theorem od_add : OpD K (rAddD K) fAdd := by
  intro x y vx vy H μ P Q w rx ry q k
  cases rx <;> cases ry <;> try exact q.elim
  · exact .inl ⟨_, _, rfl, rfl, k _ _ H q (Nx.refl w) (.int _)⟩
  · rename_i a ha b hb
    exact .inr (.inl ⟨_, _, rfl, rfl, q.1, k _ _ H q.2 (Nx.refl w) (.str _ (sok_add ha hb q.1))⟩)
  · rename_i a xs ds ha ra za b ys es hb rb zb
    have hz : xs.length + ys.length ≤ sizeLine := by rw [ra.length, rb.length]; exact q.1
    refine .inr (.inr (.inr ⟨_, _, xs, ys, rfl, rfl, SqT.of (hide_in ha), SqT.of (hide_in hb), hz, fun e => ?_, fun e1 e2 => ?_, fun e1 e2 p hp => ?_⟩))
    · subst e
      cases ra
      exact k _ _ H q.2 (Nx.refl w) (.tup hb rb zb)
    · subst e2
      cases rb
      exact k _ _ H q.2 (Nx.refl w) (.tup ha (by rw [List.append_nil]; exact ra) (by rw [List.append_nil]; exact za))
    · have n : Nx K H μ (upd H p (.tup (xs ++ ys))) μ := Nx.new w hp
      exact k _ _ _ q.2 n (.tup (new_at (w.free hp)) ((ra.append rb).mono n.ext) (by rw [List.length_append]; exact q.1))
  · rename_i a xs ds ha ra za b ys es hb rb zb
    have hz : xs.length + ys.length ≤ sizeLine := by rw [ra.length, rb.length]; exact q.1
    refine .inr (.inr (.inl ⟨_, _, xs, ys, rfl, rfl, hide_in ha, hide_in hb, hz, fun p hp => ?_⟩))
    have n : Nx K H μ (upd H p (.lst (xs ++ ys))) μ := Nx.new w hp
    exact k _ _ _ q.2 n (.lst (new_at (w.free hp)) ((ra.append rb).mono n.ext) (by rw [List.length_append]; exact q.1))
/-- a * b: two ints, an int and a truth value, a text and an int -/
def b2I (b : Bool) : Int := if b = true then 1 else 0
def fMul : F2 := fun _ x y P => match x, y with
  | .int i, .int j => CMul i j ∧ P (.int (i * j))
  | .int i, .bl b => P (.int (i * b2I b))
  | _, _ => False
def rMulD : R2 := fun x y H Q => (rI CMul fun i j => .int (i * j)) x y H Q ∨ (∃ i b, x = V.int i ∧ y = V.bl b ∧ Q (.int (i * b2I b)) H)
theorem op_mulB {X : Cx} : OpR X (binaryOp .Mult) (fun x y H Q => ∃ i b, x = V.int i ∧ y = V.bl b ∧ Q (.int (i * b2I b)) H) := by
  intro pins s σ H x y v u Q I rx ry h
  obtain ⟨i, b, rfl, rfl, q⟩ := h
  obtain ⟨t, rfl⟩ := rx
  cases ry
  exact PySem.IntBool.mul_int_bool ⟨.int _, H, I.tok _, ⟨_, rfl⟩, q⟩
theorem op_mulD {X : Cx} : OpR X (binaryOp .Mult) rMulD := op_mul.or op_mulB
theorem od_mul : OpD K rMulD fMul := by
  intro x y vx vy H μ P Q w rx ry q k
  cases rx <;> cases ry <;> try exact q.elim
  · exact .inr ⟨_, _, rfl, rfl, k _ _ H q (Nx.refl w) (.int _)⟩
  · exact .inl ⟨_, _, rfl, rfl, q.1, k _ _ H q.2 (Nx.refl w) (.int _)⟩
end

/-! ### equality of data -/
mutual
def toP : D → PyData
  | .non => .none
  | .bl b => .bool b
  | .int i => .int i
  | .str s => .str s
  | .tup ds => .tuple (toPs ds)
  | .lst ds => .list (toPs ds)
  | _ => .none
def toPs : List D → List PyData
  | [] => []
  | d :: ds => toP d :: toPs ds
end
mutual
/-- plain through and through, of at most n levels -/
def plain : Nat → D → Bool
  | _, .non => true
  | _, .bl _ => true
  | _, .int _ => true
  | _, .str _ => true
  | n + 1, .tup ds => plains n ds
  | n + 1, .lst ds => plains n ds
  | _, _ => false
def plains : Nat → List D → Bool
  | _, [] => true
  | n, d :: ds => plain n d && plains n ds
end
mutual
def eqvD : D → D → Bool
  | .non, .non => true
  | .bl a, .bl b => a == b
  | .int a, .int b => a == b
  | .bl a, .int b => b2I a == b
  | .int a, .bl b => a == b2I b
  | .str a, .str b => a == b
  | .tup a, .tup b => eqvDs a b
  | .lst a, .lst b => eqvDs a b
  | _, _ => false
def eqvDs : List D → List D → Bool
  | [], [] => true
  | x :: xs, y :: ys => eqvD x y && eqvDs xs ys
  | _, _ => false
end
section
variable {K : PySem.W.Frag} {G : Hp}
mutual
theorem dp_of {H : Hp} {μ : Mu} : ∀ {v : V} {d : D} {n : Nat}, Rp K (hide H μ) v d → plain n d = true → Dp K H v (toP d)
  | _, _, _, .non, _ => .non
  | _, _, _, .bl b, _ => .bl b
  | _, _, _, .int i, _ => .int i
  | _, _, _, .str x _, _ => .str x
  | _, _, n, .tup (ds := ds) h r _, p => by
    cases n with
    | zero => simp [plain] at p
    | succ n => exact .tup (SqT.of (hide_in h)) (dp_all r (by simpa [plain] using p))
  | _, _, n, .lst (ds := ds) h r _, p => by
    cases n with
    | zero => simp [plain] at p
    | succ n => exact .lst (SqL.of (hide_in h)) (dp_all r (by simpa [plain] using p))
  | _, _, n, .ptr a, p => by cases n <;> simp [plain] at p
  | _, _, n, .scr h, p => by cases n <;> simp [plain] at p
  | _, _, n, .ty s, p => by cases n <;> simp [plain] at p
theorem dp_all {H : Hp} {μ : Mu} : ∀ {vs : List V} {ds : List D} {n : Nat}, RpAll K (hide H μ) vs ds → plains n ds = true → DpAll K H vs (toPs ds)
  | _, _, _, .nil, _ => .nil
  | _, _, n, .cons r t, p => by
    simp only [plains, Bool.and_eq_true] at p
    exact .cons (dp_of r p.1) (dp_all t p.2)
end
mutual
theorem lay_of : ∀ {v : V} {d : D} {n : Nat}, Rp K G v d → plain n d = true → (toP d).canLay0 = true ∧ (toP d).depth ≤ n
  | _, _, _, .non, _ => by simp [toP, PyData.canLay0, PyData.depth]
  | _, _, _, .bl b, _ => by simp [toP, PyData.canLay0, PyData.depth]
  | _, _, _, .int i, _ => by simp [toP, PyData.canLay0, PyData.depth]
  | _, _, _, .str x h, _ => by simp [toP, PyData.canLay0, PyData.depth, h.2]
  | _, _, n, .tup (ds := ds) _ r _, p => by
    cases n with
    | zero => simp [plain] at p
    | succ n =>
      have := lay_all (n := n) r (by simpa [plain] using p)
      simp only [toP, PyData.canLay0, PyData.depth]
      exact ⟨this.1, by omega⟩
  | _, _, n, .lst (ds := ds) _ r _, p => by
    cases n with
    | zero => simp [plain] at p
    | succ n =>
      have := lay_all (n := n) r (by simpa [plain] using p)
      simp only [toP, PyData.canLay0, PyData.depth]
      exact ⟨this.1, by omega⟩
  | _, _, n, .ptr a, p => by cases n <;> simp [plain] at p
  | _, _, n, .scr h, p => by cases n <;> simp [plain] at p
  | _, _, n, .ty s, p => by cases n <;> simp [plain] at p
theorem lay_all : ∀ {vs : List V} {ds : List D} {n : Nat}, RpAll K G vs ds → plains n ds = true → PyData.canLayAll0 (toPs ds) = true ∧ PyData.depthAll (toPs ds) ≤ n
  | _, _, _, .nil, _ => by simp [toPs, PyData.canLayAll0, PyData.depthAll]
  | _, _, n, .cons (d := d) (ds := ds) r t, p => by
    simp only [plains, Bool.and_eq_true] at p
    have h1 := lay_of r p.1
    have h2 := lay_all t p.2
    simp only [toPs, PyData.canLayAll0, PyData.depthAll, Bool.and_eq_true]
    exact ⟨⟨h1.1, h2.1⟩, by omega⟩
end
theorem shaped_of {v : V} {d : D} {n : Nat} (r : Rp K G v d) (h : plain n d = true) (hn : n ≤ 64) : SeqAt.shaped (toP d) = true := by
  have := lay_of r h
  show ((toP d).canLay0 && decide ((toP d).depth ≤ 64)) = true
  rw [Bool.and_eq_true]
  exact ⟨this.1, decide_eq_true (by omega)⟩
mutual
theorem eqv_toP : ∀ {n m : Nat} (x y : D), plain n x = true → plain m y = true → PyData.eqv (toP x) (toP y) = eqvD x y
  | n, m, .non, .non, _, _ => by simp [toP, PyData.eqv, eqvD]
  | n, m, .non, .bl _, _, _ => by simp [toP, PyData.eqv, eqvD]
  | n, m, .non, .int _, _, _ => by simp [toP, PyData.eqv, eqvD]
  | n, m, .non, .str _, _, _ => by simp [toP, PyData.eqv, eqvD]
  | n, m, .non, .tup _, _, _ => by simp [toP, PyData.eqv, eqvD]
  | n, m, .non, .lst _, _, _ => by simp [toP, PyData.eqv, eqvD]
  | n, m, .bl _, .non, _, _ => by simp [toP, PyData.eqv, eqvD]
  | n, m, .bl _, .bl _, _, _ => by simp [toP, PyData.eqv, eqvD]
  | n, m, .bl _, .int _, _, _ => by simp [toP, PyData.eqv, eqvD, b2I]
  | n, m, .bl _, .str _, _, _ => by simp [toP, PyData.eqv, eqvD]
  | n, m, .bl _, .tup _, _, _ => by simp [toP, PyData.eqv, eqvD]
  | n, m, .bl _, .lst _, _, _ => by simp [toP, PyData.eqv, eqvD]
  | n, m, .int _, .non, _, _ => by simp [toP, PyData.eqv, eqvD]
  | n, m, .int _, .bl _, _, _ => by simp [toP, PyData.eqv, eqvD, b2I]
  | n, m, .int _, .int _, _, _ => by simp [toP, PyData.eqv, eqvD]
  | n, m, .int _, .str _, _, _ => by simp [toP, PyData.eqv, eqvD]
  | n, m, .int _, .tup _, _, _ => by simp [toP, PyData.eqv, eqvD]
  | n, m, .int _, .lst _, _, _ => by simp [toP, PyData.eqv, eqvD]
  | n, m, .str _, .non, _, _ => by simp [toP, PyData.eqv, eqvD]
  | n, m, .str _, .bl _, _, _ => by simp [toP, PyData.eqv, eqvD]
  | n, m, .str _, .int _, _, _ => by simp [toP, PyData.eqv, eqvD]
  | n, m, .str _, .str _, _, _ => by simp [toP, PyData.eqv, eqvD]
  | n, m, .str _, .tup _, _, _ => by simp [toP, PyData.eqv, eqvD]
  | n, m, .str _, .lst _, _, _ => by simp [toP, PyData.eqv, eqvD]
  | n, m, .tup _, .non, _, _ => by simp [toP, PyData.eqv, eqvD]
  | n, m, .tup _, .bl _, _, _ => by simp [toP, PyData.eqv, eqvD]
  | n, m, .tup _, .int _, _, _ => by simp [toP, PyData.eqv, eqvD]
  | n, m, .tup _, .str _, _, _ => by simp [toP, PyData.eqv, eqvD]
  | n, m, .tup xs, .tup ys, p, q => by
    cases n with
    | zero => simp [plain] at p
    | succ n =>
      cases m with
      | zero => simp [plain] at q
      | succ m =>
        simp only [toP, PyData.eqv, eqvD]
        exact eqv_all xs ys (by simpa [plain] using p) (by simpa [plain] using q)
  | n, m, .tup _, .lst _, _, _ => by simp [toP, PyData.eqv, eqvD]
  | n, m, .lst _, .non, _, _ => by simp [toP, PyData.eqv, eqvD]
  | n, m, .lst _, .bl _, _, _ => by simp [toP, PyData.eqv, eqvD]
  | n, m, .lst _, .int _, _, _ => by simp [toP, PyData.eqv, eqvD]
  | n, m, .lst _, .str _, _, _ => by simp [toP, PyData.eqv, eqvD]
  | n, m, .lst _, .tup _, _, _ => by simp [toP, PyData.eqv, eqvD]
  | n, m, .lst xs, .lst ys, p, q => by
    cases n with
    | zero => simp [plain] at p
    | succ n =>
      cases m with
      | zero => simp [plain] at q
      | succ m =>
        simp only [toP, PyData.eqv, eqvD]
        exact eqv_all xs ys (by simpa [plain] using p) (by simpa [plain] using q)
  | n, m, .ptr a, y, p, _ => by cases n <;> simp [plain] at p
  | n, m, .scr a, y, p, _ => by cases n <;> simp [plain] at p
  | n, m, .ty a, y, p, _ => by cases n <;> simp [plain] at p
  | n, m, x, .ptr a, _, p => by cases m <;> simp [plain] at p
  | n, m, x, .scr a, _, p => by cases m <;> simp [plain] at p
  | n, m, x, .ty a, _, p => by cases m <;> simp [plain] at p
theorem eqv_all : ∀ {n m : Nat} (xs ys : List D), plains n xs = true → plains m ys = true → PyData.eqvAll (toPs xs) (toPs ys) = eqvDs xs ys
  | n, m, [], [], _, _ => by simp [toPs, PyData.eqvAll, eqvDs]
  | n, m, [], _ :: _, _, _ => by simp [toPs, PyData.eqvAll, eqvDs]
  | n, m, _ :: _, [], _, _ => by simp [toPs, PyData.eqvAll, eqvDs]
  | n, m, x :: xs, y :: ys, p, q => by
    simp only [plains, Bool.and_eq_true] at p q
    simp only [toPs, PyData.eqvAll, eqvDs]
    rw [eqv_toP x y p.1 q.1, eqv_all xs ys p.2 q.2]
end
def fEq : F2 := fun _ x y P => plain 16 x = true ∧ plain 16 y = true ∧ P (.bl (eqvD x y))
def fNe : F2 := fun _ x y P => plain 16 x = true ∧ plain 16 y = true ∧ P (.bl (!eqvD x y))
theorem od_eq : OpD K (rEqD K) fEq := fun x y vx vy H μ P Q w rx ry ⟨px, py, q⟩ k =>
  ⟨toP x, toP y, dp_of rx px, dp_of ry py, shaped_of rx px (by decide), shaped_of ry py (by decide), by rw [eqv_toP x y px py]; exact k _ _ H q (Nx.refl w) (.bl _)⟩
theorem od_ne : OpD K (rNeD K) fNe := fun x y vx vy H μ P Q w rx ry ⟨px, py, q⟩ k =>
  ⟨toP x, toP y, dp_of rx px, dp_of ry py, shaped_of rx px (by decide), shaped_of ry py (by decide), by rw [eqv_toP x y px py]; exact k _ _ H q (Nx.refl w) (.bl _)⟩
end
/-! ### is None; in; places -/
section
variable {K : PySem.W.Frag}
def isN : D → Bool
  | .non => true
  | _ => false
def fIsN : F2 := fun _ x y P => y = .non ∧ P (.bl (isN x))
def fNotN : F2 := fun _ x y P => y = .non ∧ P (.bl (!isN x))
theorem isN_of {G : Hp} {v : V} {d : D} (r : Rp K G v d) : decide (v = .non) = isN d := by cases r <;> simp [isN]
theorem od_isN : OpD K (fun x y H Q => y = V.non ∧ Q (.bl (decide (x = .non))) H) fIsN := fun x y vx vy H μ P Q w rx ry ⟨e, q⟩ k => by
  subst e; cases ry
  exact ⟨rfl, by rw [isN_of rx]; exact k _ _ H q (Nx.refl w) (.bl _)⟩
theorem od_notN : OpD K (fun x y H Q => y = V.non ∧ Q (.bl (!decide (x = .non))) H) fNotN := fun x y vx vy H μ P Q w rx ry ⟨e, q⟩ k => by
  subst e; cases ry
  exact ⟨rfl, by rw [isN_of rx]; exact k _ _ H q (Nx.refl w) (.bl _)⟩
/-- x[i] -/
def fIx : F2 := fun μ x y P => match x, y with
  | .ptr p, .int i => ∃ ds d, μ p = some (.lst ds) ∧ atI ds i = some d ∧ P d
  | .lst ds, .int i => ∃ d, atI ds i = some d ∧ P d
  | .tup ds, .int i => ∃ d, atI ds i = some d ∧ P d
  | .str s, .int i => ∃ c, atI s.cps.toList i = some c ∧ P (.str ⟨#[c]⟩)
  | _, _ => False
theorem RpAll.at {G : Hp} {vs : List V} {ds : List D} {i : Int} {d : D} (r : RpAll K G vs ds) (h : atI ds i = some d) : ∃ v, atI vs i = some v ∧ Rp K G v d := by
  unfold atI at h ⊢
  rw [r.length]
  cases q : ixN ds.length i with
  | none => rw [q] at h; cases h
  | some j =>
    rw [q] at h
    obtain ⟨v, h1, h2⟩ := r.get (show ds[j]? = some d from h)
    exact ⟨v, h1, h2⟩
theorem sign_ok {s : Str} {i : Int} {c : Nat} (hs : SOk s) (h : atI s.cps.toList i = some c) : SOk ⟨#[c]⟩ := by
  refine ⟨by show 1 ≤ sizeLine; decide, ?_⟩
  obtain ⟨j, _, h2, _⟩ := atI_get h
  have h3 := hs.2
  unfold PyData.strOk at h3 ⊢
  rw [Array.all_eq_true'] at h3
  have := h3 c (by have := List.mem_of_getElem? h2; simpa using this)
  simpa using this
theorem od_ix : OpD K (rIx K) fIx := by
  intro x y vx vy H μ P Q w rx ry q k
  cases rx <;> cases ry <;> try exact q.elim
  · rename_i s hz i
    obtain ⟨c, h, q⟩ := q
    exact .inr (.inr ⟨_, _, c, rfl, rfl, hz.1, h, k _ _ H q (Nx.refl w) (.str _ (sign_ok hz h))⟩)
  · rename_i a xs ds ha ra za i
    obtain ⟨d, h, q⟩ := q
    obtain ⟨v, h1, h2⟩ := ra.at h
    exact .inr (.inl ⟨_, _, _, v, rfl, rfl, SqT.of (hide_in ha), h1, k d v H q (Nx.refl w) h2⟩)
  · rename_i a xs ds ha ra za i
    obtain ⟨d, h, q⟩ := q
    obtain ⟨v, h1, h2⟩ := ra.at h
    exact .inl ⟨_, _, _, v, rfl, rfl, SqL.of (hide_in ha), h1, k d v H q (Nx.refl w) h2⟩
  · rename_i a i
    obtain ⟨ds, d, hp, h, q⟩ := q
    obtain ⟨xs, e, ra, za⟩ := w a _ hp
    obtain ⟨v, h1, h2⟩ := ra.at h
    exact .inl ⟨_, _, _, v, rfl, rfl, SqL.of e, h1, k d v H q (Nx.refl w) h2⟩
/-- flat things, by their equality -/
def flatD : D → Bool
  | .non => true
  | .bl _ => true
  | .int _ => true
  | .str _ => true
  | _ => false
theorem flat_of {G : Hp} {v : V} {d : D} (r : Rp K G v d) (h : flatD d = true) : flatV v = true := by cases r <;> first | rfl | cases h
theorem eqV_of {G : Hp} {v u : V} {d e : D} (r : Rp K G v d) (r' : Rp K G u e) (h : flatD d = true) (h' : flatD e = true) : eqV v u = eqvD d e := by
  cases r <;> (try (cases h; done)) <;> cases r' <;> (try (cases h'; done)) <;> first | rfl | simp [eqV, eqvD, b2I]
theorem flats_of {G : Hp} : ∀ {vs : List V} {ds : List D}, RpAll K G vs ds → ds.all flatD = true → vs.all flatV = true
  | _, _, .nil, _ => rfl
  | _, _, .cons r t, h => by
    simp only [List.all_cons, Bool.and_eq_true] at h ⊢
    exact ⟨flat_of r h.1, flats_of t h.2⟩
theorem inV_of {G : Hp} {x : V} {d : D} (rx : Rp K G x d) (hx : flatD d = true) : ∀ {vs : List V} {ds : List D}, RpAll K G vs ds → ds.all flatD = true → inV x vs = ds.any fun e => eqvD e d
  | _, _, .nil, _ => rfl
  | _, _, .cons r t, h => by
    simp only [List.all_cons, Bool.and_eq_true] at h
    have := inV_of rx hx t h.2
    unfold inV at this ⊢
    rw [List.any_cons, List.any_cons, this, eqV_of r rx h.1 hx]
/-- x in y: flat things in a list or tuple, a text in a text -/
def fIn (neg : Bool) : F2 := fun _ x y P => match x, y with
  | .str a, .str b => P (.bl (neg ^^ (!(Builtin.Str.occurrences b a 0 b.length 1).isEmpty)))
  | _, .lst ds => flatD x = true ∧ ds.all flatD = true ∧ P (.bl (neg ^^ ds.any fun e => eqvD e x))
  | _, .tup ds => flatD x = true ∧ ds.all flatD = true ∧ P (.bl (neg ^^ ds.any fun e => eqvD e x))
  | _, _ => False
def rInD2 (K : PySem.W.Frag) : R2 := fun x y H Q => rIn K false x y H Q ∨ (fun x y H Q => ∃ i j, x = V.str i ∧ y = V.str j ∧ Q (.bl (!(Builtin.Str.occurrences j i 0 j.length 1).isEmpty)) H) x y H Q
def rNotInD2 (K : PySem.W.Frag) : R2 := fun x y H Q => rIn K true x y H Q ∨ (fun x y H Q => ∃ i j, x = V.str i ∧ y = V.str j ∧ Q (.bl (!(!(Builtin.Str.occurrences j i 0 j.length 1).isEmpty))) H) x y H Q
theorem op_inD2 {X : Cx} : OpR X (compareOp .In) (rInD2 X.K) := op_in_seq.or op_in_str
theorem op_notInD2 {X : Cx} : OpR X (compareOp .NotIn) (rNotInD2 X.K) := op_notIn_seq.or op_notIn_str
theorem in_seq_go {x y : D} {vx vy : V} {H : Hp} {μ : Mu} {P : D → Prop} {Q : VK} {neg : Bool} {ds : List D} {b : Bool} (w : Wd K H μ) (rx : Rp K (hide H μ) vx x) (ry : Rp K (hide H μ) vy y) (hy : y = .lst ds ∨ y = .tup ds)
    (h1 : flatD x = true) (h2 : ds.all flatD = true) (hb : b = (neg ^^ ds.any fun e => eqvD e x)) (q : P (.bl b)) (k : ∀ z vz H', P z → Nx K H μ H' μ → Rp K (hide H' μ) vz z → Q vz H') : rIn K neg vx vy H Q := by
  rcases hy with rfl | rfl
  · cases ry with
    | lst ha ra za =>
      refine ⟨_, _, rfl, .inl (SqL.of (hide_in ha)), flat_of rx h1, flats_of ra h2, ?_⟩
      have e := inV_of rx h1 ra h2
      rw [e]
      have e2 : (if neg = true then !(ds.any fun e => eqvD e x) else ds.any fun e => eqvD e x) = b := by rw [hb]; cases neg <;> simp
      rw [e2]
      exact k _ _ H q (Nx.refl w) (.bl _)
  · cases ry with
    | tup ha ra za =>
      refine ⟨_, _, rfl, .inr (SqT.of (hide_in ha)), flat_of rx h1, flats_of ra h2, ?_⟩
      have e := inV_of rx h1 ra h2
      rw [e]
      have e2 : (if neg = true then !(ds.any fun e => eqvD e x) else ds.any fun e => eqvD e x) = b := by rw [hb]; cases neg <;> simp
      rw [e2]
      exact k _ _ H q (Nx.refl w) (.bl _)
theorem in_cases {neg : Bool} {μ : Mu} {x y : D} {P : D → Prop} (q : fIn neg μ x y P) : (∃ a b, x = .str a ∧ y = .str b ∧ P (.bl (neg ^^ (!(Builtin.Str.occurrences b a 0 b.length 1).isEmpty)))) ∨
    ∃ ds, (y = .lst ds ∨ y = .tup ds) ∧ flatD x = true ∧ ds.all flatD = true ∧ P (.bl (neg ^^ ds.any fun e => eqvD e x)) := by
  cases y <;> first
    | exact .inr ⟨_, .inl rfl, (by cases x <;> exact q)⟩
    | exact .inr ⟨_, .inr rfl, (by cases x <;> exact q)⟩
    | (cases x <;> first | exact q.elim | exact .inl ⟨_, _, rfl, rfl, q⟩)
theorem od_in : OpD K (rInD2 K) (fIn false) := by
  intro x y vx vy H μ P Q w rx ry q k
  rcases in_cases q with ⟨a, b, rfl, rfl, q⟩ | ⟨ds, hy, h1, h2, q⟩
  · cases rx; cases ry
    exact .inr ⟨_, _, rfl, rfl, k _ _ H q (Nx.refl w) (by rw [Bool.false_xor]; exact .bl _)⟩
  · exact .inl (in_seq_go w rx ry hy h1 h2 rfl q k)
theorem od_notIn : OpD K (rNotInD2 K) (fIn true) := by
  intro x y vx vy H μ P Q w rx ry q k
  rcases in_cases q with ⟨a, b, rfl, rfl, q⟩ | ⟨ds, hy, h1, h2, q⟩
  · cases rx; cases ry
    exact .inr ⟨_, _, rfl, rfl, k _ _ H q (Nx.refl w) (by rw [Bool.true_xor]; exact .bl _)⟩
  · exact .inl (in_seq_go w rx ry hy h1 h2 rfl q k)
/-- order: ints, texts -/
def fCmp (c : Int → Int → Bool) (t : Str → Str → Bool) : F2 := fun _ x y P => match x, y with
  | .int i, .int j => P (.bl (c i j))
  | .str a, .str b => P (.bl (t a b))
  | _, _ => False
theorem od_cmp {c : Int → Int → Bool} {t : Str → Str → Bool} : OpD K (fun x y H Q => (rI0 fun i j => .bl (c i j)) x y H Q ∨ (∃ i j, x = V.str i ∧ y = V.str j ∧ Q (.bl (t i j)) H)) (fCmp c t) := by
  intro x y vx vy H μ P Q w rx ry q k
  cases rx <;> cases ry <;> try exact q.elim
  · exact .inl ⟨_, _, rfl, rfl, k _ _ H q (Nx.refl w) (.bl _)⟩
  · exact .inr ⟨_, _, rfl, rfl, k _ _ H q (Nx.refl w) (.bl _)⟩
end
section
variable {X : Cx}
abbrev ltS (a b : Str) : Bool := decide (a.cps.toList < b.cps.toList)
theorem op_ltD : OpR X (compareOp .Lt) (fun x y H Q => (rI0 fun i j => .bl (decide (i < j))) x y H Q ∨ (∃ i j, x = V.str i ∧ y = V.str j ∧ Q (.bl (decide (i.cps.toList < j.cps.toList))) H)) := op_lt.or op_lt_str
theorem op_leD : OpR X (compareOp .LtE) (fun x y H Q => (rI0 fun i j => .bl (decide (i ≤ j))) x y H Q ∨ (∃ i j, x = V.str i ∧ y = V.str j ∧ Q (.bl (!decide (j.cps.toList < i.cps.toList))) H)) := op_le.or op_le_str
theorem op_gtD : OpR X (compareOp .Gt) (fun x y H Q => (rI0 fun i j => .bl (decide (j < i))) x y H Q ∨ (∃ i j, x = V.str i ∧ y = V.str j ∧ Q (.bl (decide (j.cps.toList < i.cps.toList))) H)) := op_gt.or op_gt_str
theorem op_geD : OpR X (compareOp .GtE) (fun x y H Q => (rI0 fun i j => .bl (decide (j ≤ i))) x y H Q ∨ (∃ i j, x = V.str i ∧ y = V.str j ∧ Q (.bl (!decide (i.cps.toList < j.cps.toList))) H)) := op_ge.or op_ge_str
def fLt : F2 := fCmp (fun i j => decide (i < j)) fun i j => decide (i.cps.toList < j.cps.toList)
def fLe : F2 := fCmp (fun i j => decide (i ≤ j)) fun i j => !decide (j.cps.toList < i.cps.toList)
def fGt : F2 := fCmp (fun i j => decide (j < i)) fun i j => decide (j.cps.toList < i.cps.toList)
def fGe : F2 := fCmp (fun i j => decide (j ≤ i)) fun i j => !decide (i.cps.toList < j.cps.toList)
end
end DL
end

-- part DL3
section
namespace DL
open PySem L2

/-! ### built-ins by data -/
section
variable {K : PySem.W.Frag}
abbrev FB := Mu → List D → (D → Prop) → Prop
def CallD (K : PySem.W.Frag) (r : List V → Hp → VK → Prop) (f : FB) : Prop := ∀ (ds : List D) (vs : List V) (H : Hp) (μ : Mu) (P : D → Prop) (Q : VK), Wd K H μ → RpAll K (hide H μ) vs ds → f μ ds P →
  (∀ z vz H', P z → Nx K H μ H' μ → Rp K (hide H' μ) vz z → Q vz H') → r vs H Q
def dB (f : FB) (A : TF (List D)) : TF D := fun ρ μ Q => A ρ μ fun ds μ1 => f μ1 ds fun z => Q z μ1
theorem cb_go {σ : L2.St} {H : Hp} {Q : VK} {f : FB} {A : TF (List D)} {r : List V → Hp → VK → Prop} (ho : CallD K r f) (h : tD K (dB f A) σ H Q) : tCB r (tDA K A) σ H Q := by
  obtain ⟨ρ, μ, Qd, s, hf, k⟩ := h
  exact Lift.go s hf fun ds μ1 vs H1 g1 s1 n1 r1 => ho ds vs H1 μ1 _ _ s1.wd r1 g1 fun z vz H2 p n2 r2 => k z μ1 vz H2 p (n1.trans n2) r2
theorem de_B {X : Cx} {x : Str} {p pos : Pos} {e : Expr} {es : List Expr} {A : TF (List D)} {id : String} {r : List V → Hp → VK → Prop} {f : FB} (hc : CallR X (.builtin id) r) (ho : CallD X.K r f) (hg : Gl X x) (hm : X.mg x = none) (hv : bootBuiltins x = some (.builtin id)) (ha : DA X (e :: es) A) (hn : x ≠ "__name__" := by decide) (hdb : (x == ("__debug__" : Str)) = false := by decide)
    (he : starEach (e :: es) X.env = (false, eval e X.env) :: starEach es X.env := by rfl) (hpl : (backTo pos (starEach es X.env)).any (·.1) = false := by rfl) : DE X (.Call (.Name x p) (e :: es) [] pos) (dB f A) := weakE (pe_callB hc hg hm hv ha hn hdb he hpl) fun _ _ _ h => cb_go ho h
theorem de_T {X : Cx} {x : Str} {p pos : Pos} {e : Expr} {es : List Expr} {A : TF (List D)} {T : String} {r : List V → Hp → VK → Prop} {f : FB} (hc : CallR X (.type T) r) (ho : CallD X.K r f) (hg : Gl X x) (hm : X.mg x = none) (hv : bootBuiltins x = some (.type T)) (ha : DA X (e :: es) A) (hn : x ≠ "__name__" := by decide) (hdb : (x == ("__debug__" : Str)) = false := by decide)
    (he : starEach (e :: es) X.env = (false, eval e X.env) :: starEach es X.env := by rfl) (hpl : (backTo pos (starEach es X.env)).any (·.1) = false := by rfl) : DE X (.Call (.Name x p) (e :: es) [] pos) (dB f A) := weakE (pe_callTy hc hg hm hv ha hn hdb he hpl) fun _ _ _ h => cb_go ho h
theorem rp1 {G : Hp} {vs : List V} {d : D} (r : RpAll K G vs [d]) : ∃ v, vs = [v] ∧ Rp K G v d := by
  cases r with
  | cons r t => cases t; exact ⟨_, rfl, r⟩
theorem rp2 {G : Hp} {vs : List V} {d e : D} (r : RpAll K G vs [d, e]) : ∃ v u, vs = [v, u] ∧ Rp K G v d ∧ Rp K G u e := by
  cases r with
  | cons r t =>
    cases t with
    | cons r' t => cases t; exact ⟨_, _, rfl, r, r'⟩
/-- len -/
def fLen : FB := fun μ ds P => match ds with
  | [.lst a] => P (.int a.length)
  | [.tup a] => P (.int a.length)
  | [.str a] => P (.int a.length)
  | [.ptr p] => ∃ a, μ p = some (.lst a) ∧ P (.int a.length)
  | _ => False
theorem cd_len : CallD K (fun xs H Q => ∃ x n, xs = [x] ∧ LenV K x H n ∧ Q (.int n) H) fLen := by
  intro ds vs H μ P Q w r q k
  unfold fLen at q
  split at q
  · obtain ⟨v, rfl, r1⟩ := rp1 r
    cases r1 with
    | lst ha ra za => exact ⟨_, _, rfl, .inl ⟨_, SqL.of (hide_in ha), rfl⟩, by rw [ra.length]; exact k _ _ H q (Nx.refl w) (.int _)⟩
  · obtain ⟨v, rfl, r1⟩ := rp1 r
    cases r1 with
    | tup ha ra za => exact ⟨_, _, rfl, .inr ⟨_, SqT.of (hide_in ha), rfl⟩, by rw [ra.length]; exact k _ _ H q (Nx.refl w) (.int _)⟩
  · obtain ⟨v, rfl, r1⟩ := rp1 r
    cases r1 with
    | str x hx => exact ⟨_, _, rfl, ⟨hx.1, rfl⟩, k _ _ H q (Nx.refl w) (.int _)⟩
  · obtain ⟨v, rfl, r1⟩ := rp1 r
    obtain ⟨a, hp, q⟩ := q
    obtain ⟨xs, e, ra, za⟩ := w _ _ hp
    cases r1
    exact ⟨_, _, rfl, .inl ⟨_, SqL.of e, rfl⟩, by rw [ra.length]; exact k _ _ H q (Nx.refl w) (.int _)⟩
  · exact q.elim
/-- list -/
def fList : FB := fun μ ds P => match ds with
  | [.lst a] => P (.lst a)
  | [.tup a] => P (.lst a)
  | [.scr ns] => ns.length ≤ sizeLine ∧ P (.lst (ns.map D.int))
  | [.ptr p] => ∃ a, μ p = some (.lst a) ∧ P (.lst a)
  | _ => False
theorem rp_ints {G : Hp} : ∀ ns : List Int, RpAll K G (ns.map V.int) (ns.map D.int)
  | [] => .nil
  | n :: ns => .cons (.int n) (rp_ints ns)
theorem cd_list : CallD K (fun xs H Q => ∃ p ys, xs = [.ref p] ∧ (SqL K H p ys ∨ SqT K H p ys) ∧ ∀ l, H l = none → Q (.ref l) (upd H l (.lst ys))) fList := by
  intro ds vs H μ P Q w r q k
  have fin : ∀ (xs : List V) (a : List D), RpAll K (hide H μ) xs a → a.length ≤ sizeLine → P (.lst a) → ∀ l, H l = none → Q (.ref l) (upd H l (.lst xs)) := fun xs a ra za q l hl => by
    have n : Nx K H μ (upd H l (.lst xs)) μ := Nx.new w hl
    exact k _ _ _ q n (.lst (new_at (w.free hl)) (ra.mono n.ext) za)
  unfold fList at q
  split at q
  · obtain ⟨v, rfl, r1⟩ := rp1 r
    cases r1 with
    | lst ha ra za => exact ⟨_, _, rfl, .inl (SqL.of (hide_in ha)), fin _ _ ra za q⟩
  · obtain ⟨v, rfl, r1⟩ := rp1 r
    cases r1 with
    | tup ha ra za => exact ⟨_, _, rfl, .inr (SqT.of (hide_in ha)), fin _ _ ra za q⟩
  · obtain ⟨v, rfl, r1⟩ := rp1 r
    cases r1 with
    | @scr a ns' h =>
      refine ⟨_, _, rfl, .inl ?_, fin _ _ (rp_ints _) (by simpa using q.1) q.2⟩
      rcases h with h | h
      · rcases h with h | ⟨o, h⟩
        · exact .inl (.inl (hide_in h))
        · exact .inl (.inr ⟨o, hide_in h⟩)
      · exact .inr h
  · obtain ⟨v, rfl, r1⟩ := rp1 r
    obtain ⟨a, hp, q⟩ := q
    obtain ⟨xs, e, ra, za⟩ := w _ _ hp
    cases r1
    exact ⟨_, _, rfl, .inl (SqL.of e), fin _ _ ra za q⟩
  · exact q.elim
/-- tuple -/
def fTuple : FB := fun μ ds P => match ds with
  | [.lst a] => P (.tup a)
  | [.tup a] => P (.tup a)
  | [.ptr p] => ∃ a, μ p = some (.lst a) ∧ P (.tup a)
  | _ => False
theorem cd_tuple : CallD K (fun xs H Q => ∃ p ys, xs = [.ref p] ∧ ((SqL K H p ys ∧ ∀ l, H l = none → Q (.ref l) (upd H l (.tup ys))) ∨ (SqT K H p ys ∧ Q (.ref p) H))) fTuple := by
  intro ds vs H μ P Q w r q k
  have fin : ∀ (xs : List V) (a : List D), RpAll K (hide H μ) xs a → a.length ≤ sizeLine → P (.tup a) → ∀ l, H l = none → Q (.ref l) (upd H l (.tup xs)) := fun xs a ra za q l hl => by
    have n : Nx K H μ (upd H l (.tup xs)) μ := Nx.new w hl
    exact k _ _ _ q n (.tup (new_at (w.free hl)) (ra.mono n.ext) za)
  unfold fTuple at q
  split at q
  · obtain ⟨v, rfl, r1⟩ := rp1 r
    cases r1 with
    | lst ha ra za => exact ⟨_, _, rfl, .inl ⟨SqL.of (hide_in ha), fin _ _ ra za q⟩⟩
  · obtain ⟨v, rfl, r1⟩ := rp1 r
    cases r1 with
    | tup ha ra za => exact ⟨_, _, rfl, .inr ⟨SqT.of (hide_in ha), k _ _ H q (Nx.refl w) (.tup ha ra za)⟩⟩
  · obtain ⟨v, rfl, r1⟩ := rp1 r
    obtain ⟨a, hp, q⟩ := q
    obtain ⟨xs, e, ra, za⟩ := w _ _ hp
    cases r1
    exact ⟨_, _, rfl, .inl ⟨SqL.of e, fin _ _ ra za q⟩⟩
  · exact q.elim
/-- int(n), abs(n), max(a, b), min(a, b) -/
def fInt : FB := fun _ ds P => match ds with
  | [.int i] => P (.int i)
  | [.bl b] => P (.int (if b then 1 else 0))
  | _ => False
theorem cd_int : CallD K (fun xs H Q => (∃ i, xs = [.int i] ∧ Q (.int i) H) ∨ ∃ k, xs = [.bl k] ∧ Q (.int (if k then 1 else 0)) H) fInt := by
  intro ds vs H μ P Q w r q k
  unfold fInt at q
  split at q
  · obtain ⟨v, rfl, r1⟩ := rp1 r
    cases r1
    exact .inl ⟨_, rfl, k _ _ H q (Nx.refl w) (.int _)⟩
  · obtain ⟨v, rfl, r1⟩ := rp1 r
    cases r1
    exact .inr ⟨_, rfl, k _ _ H q (Nx.refl w) (.int _)⟩
  · exact q.elim
def fI1 (g : Int → Int) : FB := fun _ ds P => match ds with
  | [.int i] => P (.int (g i))
  | _ => False
def fI2 (g : Int → Int → Int) : FB := fun _ ds P => match ds with
  | [.int i, .int j] => P (.int (g i j))
  | _ => False
theorem cd_i1 {g : Int → Int} : CallD K (fun xs H Q => ∃ i, xs = [.int i] ∧ Q (.int (g i)) H) (fI1 g) := by
  intro ds vs H μ P Q w r q k
  unfold fI1 at q
  split at q
  · obtain ⟨v, rfl, r1⟩ := rp1 r
    cases r1
    exact ⟨_, rfl, k _ _ H q (Nx.refl w) (.int _)⟩
  · exact q.elim
theorem cd_i2 {g : Int → Int → Int} : CallD K (fun xs H Q => ∃ i j, xs = [.int i, .int j] ∧ Q (.int (g i j)) H) (fI2 g) := by
  intro ds vs H μ P Q w r q k
  unfold fI2 at q
  split at q
  · obtain ⟨v, u, rfl, r1, r2⟩ := rp2 r
    cases r1; cases r2
    exact ⟨_, _, rfl, k _ _ H q (Nx.refl w) (.int _)⟩
  · exact q.elim
def absI (i : Int) : Int := if i < 0 then -i else i
def maxI (i j : Int) : Int := if j > i then j else i
def minI (i j : Int) : Int := if j < i then j else i
def fAbs : FB := fI1 absI
def fMax2 : FB := fI2 maxI
def fMin2 : FB := fI2 minI
theorem cd_abs : CallD K (fun xs H Q => ∃ i, xs = [V.int i] ∧ Q (.int (if i < 0 then -i else i)) H) fAbs := cd_i1 (g := absI)
theorem cd_max2 : CallD K (fun xs H Q => ∃ i j, xs = [V.int i, .int j] ∧ Q (.int (if j > i then j else i)) H) fMax2 := cd_i2 (g := maxI)
theorem cd_min2 : CallD K (fun xs H Q => ∃ i j, xs = [V.int i, .int j] ∧ Q (.int (if j < i then j else i)) H) fMin2 := cd_i2 (g := minI)
/-- all(xs), any(xs): a list of truth values -/
def bls : List D → Option (List Bool)
  | [] => some []
  | .bl b :: ds => (bls ds).map (b :: ·)
  | _ :: _ => none
theorem bls_of {G : Hp} : ∀ {vs : List V} {ds : List D} {bs : List Bool}, RpAll K G vs ds → bls ds = some bs → vs = bs.map V.bl
  | _, _, _, .nil, h => by cases h; rfl
  | _, _, bs, .cons (ds := ds) r t, h => by
    cases r <;> simp only [bls] at h <;> try (cases h; done)
    rename_i b
    cases q : bls ds with
    | none => rw [q] at h; cases h
    | some cs => rw [q] at h; cases h; rw [bls_of t q]; rfl
def fAll : FB := fun _ ds P => match ds with
  | [.lst a] => ∃ bs, bls a = some bs ∧ P (.bl (bs.all id))
  | _ => False
def fAny : FB := fun _ ds P => match ds with
  | [.lst a] => ∃ bs, bls a = some bs ∧ P (.bl (bs.any id))
  | _ => False
theorem cd_all : CallD K (rAll K) fAll := by
  intro ds vs H μ P Q w r q k
  unfold fAll at q
  split at q
  · obtain ⟨v, rfl, r1⟩ := rp1 r
    obtain ⟨bs, e, q⟩ := q
    cases r1 with
    | lst ha ra za => exact ⟨_, bs, rfl, by rw [← bls_of ra e]; exact SqL.of (hide_in ha), k _ _ H q (Nx.refl w) (.bl _)⟩
  · exact q.elim
theorem cd_any : CallD K (rAny K) fAny := by
  intro ds vs H μ P Q w r q k
  unfold fAny at q
  split at q
  · obtain ⟨v, rfl, r1⟩ := rp1 r
    obtain ⟨bs, e, q⟩ := q
    cases r1 with
    | lst ha ra za => exact ⟨_, bs, rfl, by rw [← bls_of ra e]; exact SqL.of (hide_in ha), k _ _ H q (Nx.refl w) (.bl _)⟩
  · exact q.elim
/-- isinstance -/
def tyD : D → Option String
  | .non => some "NoneType"
  | .bl _ => some "bool"
  | .int _ => some "int"
  | .str _ => some "str"
  | .tup _ => some "tuple"
  | .lst _ => some "list"
  | _ => none
def isA (t n : String) : Bool := t == n || (t == "bool" && n == "int")
def inTys : List D → Option (List String)
  | [] => some []
  | .ty n :: ds => (inTys ds).map (n :: ·)
  | _ :: _ => none
def okTy (n : String) : Bool := n == "list" || n == "tuple" || n == "bool" || n == "str" || n == "int"
def fIsi : FB := fun _ ds P => match ds with
  | [d, .ty n] => ∃ t, tyD d = some t ∧ okTy n = true ∧ P (.bl (isA t n))
  | [d, .tup ts] => ∃ t ns, tyD d = some t ∧ inTys ts = some ns ∧ ns.all okTy = true ∧ P (.bl (ns.any (isA t)))
  | _ => False
theorem tyX_of {H : Hp} {μ : Mu} {v : V} {d : D} {t : String} (r : Rp K (hide H μ) v d) (h : tyD d = some t) : TyX K H v (.type t) := by
  cases r <;> simp only [tyD] at h <;> try (cases h; done)
  · cases h; exact .base .non
  · cases h; exact .base (.bl _)
  · cases h; exact .base (.int _)
  · cases h; exact .base (.str _)
  · cases h; rename_i ha _ _; exact .base (.tup (hide_in ha))
  · cases h; rename_i ha _ _; exact .base (.lst (hide_in ha))
theorem isA_ok {d : D} {t n : String} (h : tyD d = some t) (hn : okTy n = true) : PySem.W.kitOne K (.type t) (.type n) = some (isA t n) := by
  have hn' : n = "list" ∨ n = "tuple" ∨ n = "bool" ∨ n = "str" ∨ n = "int" := by
    simp only [okTy, Bool.or_eq_true, beq_iff_eq] at hn
    rcases hn with (((h | h) | h) | h) | h <;> simp [h]
  have ht : t = "NoneType" ∨ t = "bool" ∨ t = "int" ∨ t = "str" ∨ t = "tuple" ∨ t = "list" := by
    cases d <;> simp only [tyD] at h <;> cases h <;> simp
  refine kit_ty ?_
  rcases hn' with rfl | rfl | rfl | rfl | rfl <;> rcases ht with rfl | rfl | rfl | rfl | rfl | rfl <;> decide +kernel
theorem inTys_of {G : Hp} : ∀ {vs : List V} {ds : List D} {ns : List String}, RpAll K G vs ds → inTys ds = some ns → Paired ClsV vs (ns.map Value.type)
  | _, _, _, .nil, h => by cases h; exact .nil
  | _, _, ns, .cons (ds := ds) r t, h => by
    cases r <;> simp only [inTys] at h <;> try (cases h; done)
    rename_i n
    cases q : inTys ds with
    | none => rw [q] at h; cases h
    | some cs => rw [q] at h; cases h; exact .cons (.ty _) (inTys_of t q)
theorem kitAny_of {d : D} {t : String} (h : tyD d = some t) : ∀ ns : List String, ns.all okTy = true → PySem.W.kitAny K (.type t) (ns.map Value.type) = some (ns.any (isA t))
  | [], _ => rfl
  | n :: ns, hn => by
    simp only [List.all_cons, Bool.and_eq_true] at hn
    refine kitAny_cons (isA_ok h hn.1) (fun e => ?_) fun e => ?_
    · rw [List.any_cons, e, Bool.false_or]; exact kitAny_of h ns hn.2
    · rw [List.any_cons, e, Bool.true_or]
def rIsiD (K : PySem.W.Frag) : List V → Hp → VK → Prop := fun xs H Q => rIsi K xs H Q ∨ rIsiT K xs H Q
theorem call_isiD {X : Cx} : CallR X (.builtin "isinstance") (rIsiD X.K) := call_isi.or call_isiT
theorem cd_isi : CallD K (rIsiD K) fIsi := by
  intro ds vs H μ P Q w r q k
  unfold fIsi at q
  split at q
  · obtain ⟨v, u, rfl, r1, r2⟩ := rp2 r
    obtain ⟨t, e, hn, q⟩ := q
    cases r2
    exact .inl ⟨_, _, _, _, _, rfl, .ty _, tyX_of r1 e, isA_ok e hn, k _ _ H q (Nx.refl w) (.bl _)⟩
  · obtain ⟨v, u, rfl, r1, r2⟩ := rp2 r
    obtain ⟨t, ns, e, ens, hn, q⟩ := q
    cases r2 with
    | tup ha ra za => exact .inr ⟨_, _, _, _, _, _, rfl, hide_in ha, inTys_of ra ens, tyX_of r1 e, kitAny_of e ns hn, k _ _ H q (Nx.refl w) (.bl _)⟩
  · exact q.elim
end

/-! ### slices -/
section
variable {X : Cx} {pos p2 : Pos} {e : Expr} {lo hi : Option Expr} {F : TF D} {L U : TF (Option Int)}
def oNone : TF (Option Int) := fun _ μ Q => Q none μ
def oSome (F : TF D) : TF (Option Int) := fun ρ μ Q => F ρ μ fun d μ1 => ∃ i, d = .int i ∧ Q (some i) μ1
def RO : Hp → Option Int → Option Int → Prop := fun _ b c => b = c
abbrev DOp (X : Cx) (e : Option Expr) (F : TF (Option Int)) : Prop := PO X e (Lift X.K RO F)
theorem do_none : DOp X none oNone := weakO po_none fun σ H Q ⟨ρ, μ, Qd, s, hf, k⟩ => k none μ none H hf (Nx.refl s.wd) rfl
theorem do_some (h : DE X e F) : DOp X (some e) (oSome F) := weakO (po_some h) fun σ H Q ⟨ρ, μ, Qd, s, hf, k⟩ => Lift.go s hf fun d μ1 v H1 ⟨i, e, g⟩ s1 n1 r => by subst e; cases r; exact ⟨i, rfl, k (some i) μ1 _ H1 g n1 rfl⟩
def cutD {α : Type} (xs : List α) (lo hi : Option Int) : List α := (xs.drop (HT.sIx xs.length 0 lo)).take (HT.sIx xs.length xs.length hi - HT.sIx xs.length 0 lo)
theorem cutD_length {α : Type} (xs : List α) (lo hi : Option Int) : (cutD xs lo hi).length ≤ xs.length := by
  unfold cutD; rw [List.length_take, List.length_drop]; omega
theorem rp_cut {K : PySem.W.Frag} {G : Hp} {vs : List V} {ds : List D} (r : RpAll K G vs ds) (lo hi : Option Int) : RpAll K G (cutV vs lo hi) (cutD ds lo hi) := by
  unfold cutV cutD; rw [r.length]; exact (r.drop _).take _
theorem cut_whole {α : Type} (xs : List α) {lo hi : Option Int} (h : HT.sIx xs.length 0 lo = 0 ∧ HT.sIx xs.length xs.length hi = xs.length) : cutD xs lo hi = xs := by
  unfold cutD; rw [h.1, h.2]; simp
theorem sok_cut {s : Str} (h : SOk s) (lo hi : Option Int) : SOk (cutS s lo hi) := by
  refine ⟨Nat.le_trans (cutS_length s lo hi) h.1, ?_⟩
  have h3 := h.2
  unfold PyData.strOk cutS at *
  rw [Array.all_eq_true'] at h3 ⊢
  intro c hc
  refine h3 c ?_
  have hc' : c ∈ ((s.cps.toList.drop (HT.sIx s.length 0 lo)).take (HT.sIx s.length s.length hi - HT.sIx s.length 0 lo)) := by simpa using hc
  have := List.mem_of_mem_drop (List.mem_of_mem_take hc')
  simpa using this
def fSl (d : D) (lo hi : Option Int) (P : D → Prop) : Prop := match d with
  | .lst ds => P (.lst (cutD ds lo hi))
  | .tup ds => P (.tup (cutD ds lo hi))
  | .str s => P (.str (cutS s lo hi))
  | _ => False
def dSl (F : TF D) (L U : TF (Option Int)) : TF D := fun ρ μ Q => F ρ μ fun d μ1 => L ρ μ1 fun l μ2 => U ρ μ2 fun u μ3 => fSl d l u fun z => Q z μ3
def rSlD (K : PySem.W.Frag) : V → Option Int → Option Int → Hp → VK → Prop := fun x lo hi H Q => (fun x lo hi H Q => rSlL K x lo hi H Q ∨ rSlA K x lo hi H Q) x lo hi H Q ∨ rSlS x lo hi H Q
theorem sl_D : SlR X (rSlD X.K) := (sl_list.or sl_tupA).or sl_str
theorem de_sl (h : DE X e F) (hl : DOp X lo L) (hu : DOp X hi U) : DE X (.Subscript e (.Slice lo hi none p2) pos) (dSl F L U) := by
  refine weakE (pe_slice sl_D h hl hu) fun σ H Q ⟨ρ, μ, Qd, s, hf, k⟩ => Lift.go s hf fun d μ1 v H1 g1 s1 n1 r1 => Lift.go (F := L) (R := RO) s1 g1 fun l μ2 l' H2 g2 s2 n2 e2 => Lift.go (F := U) (R := RO) s2 g2 fun u μ3 u' H3 g3 s3 n3 e3 => ?_
  cases (show l' = l from e2)
  cases (show u' = u from e3)
  have r3 := r1.mono (n2.trans n3).ext
  have n := (n1.trans n2).trans n3
  cases r3 with
  | str x hx => exact .inr ⟨x, rfl, hx.1, k _ μ3 _ H3 g3 n (.str _ (sok_cut hx l u))⟩
  | @lst a xs ds ha ra za =>
    refine .inl (.inl ⟨_, _, rfl, SqL.of (hide_in ha), fun p hp => ?_⟩)
    have m : Nx X.K H3 μ3 (upd H3 p (.lst (cutV xs l u))) μ3 := Nx.new s3.wd hp
    exact k _ μ3 _ _ g3 (n.trans m) (.lst (new_at (s3.wd.free hp)) ((rp_cut ra l u).mono m.ext) (Nat.le_trans (cutD_length _ l u) za))
  | @tup a xs ds ha ra za =>
    refine .inl (.inr ⟨_, _, rfl, SqT.of (hide_in ha), fun hw => ?_, fun hw p hp => ?_⟩)
    · rw [ra.length] at hw
      have g3' := g3
      unfold fSl at g3'
      simp only [cut_whole _ hw] at g3'
      exact k _ μ3 _ H3 g3' n (.tup ha ra za)
    · have m : Nx X.K H3 μ3 (upd H3 p (.tup (cutV xs l u))) μ3 := Nx.new s3.wd hp
      exact k _ μ3 _ _ g3 (n.trans m) (.tup (new_at (s3.wd.free hp)) ((rp_cut ra l u).mono m.ext) (Nat.le_trans (cutD_length _ l u) za))
  | non => exact False.elim g3
  | bl _ => exact False.elim g3
  | int _ => exact False.elim g3
  | ptr _ => exact False.elim g3
  | scr _ => exact False.elim g3
  | ty _ => exact False.elim g3
  | exn _ _ => exact False.elim g3
/-- -a -/
def fNeg (d : D) (P : D → Prop) : Prop := match d with
  | .int i => P (.int (-i))
  | _ => False
def dNeg (F : TF D) : TF D := fun ρ μ Q => F ρ μ fun d μ1 => fNeg d fun z => Q z μ1
theorem de_neg (h : DE X e F) : DE X (.UnaryOp .USub e pos) (dNeg F) :=
  weakE (pe_un un_neg h) fun σ H Q ⟨ρ, μ, Qd, s, hf, k⟩ => Lift.go s hf fun d μ1 v H1 g1 s1 n1 r1 => by
    cases r1 <;> first | exact False.elim g1 | exact ⟨_, rfl, k _ μ1 _ H1 g1 n1 (.int _)⟩
/-- a op b op' c -/
def dChn (f f' : F2) (Fa Fb Fc : TF D) : TF D := fun ρ μ Q => Fa ρ μ fun x μ1 => Fb ρ μ1 fun y μ2 => f μ2 x y fun z => ∃ b, z = .bl b ∧ if b = true then Fc ρ μ2 fun w' μ3 => f' μ3 y w' fun z => Q z μ3 else Q (.bl false) μ2
theorem de_chain {op op' : CmpOp} {r r' : R2} {f f' : F2} {a b c : Expr} {Fa Fb Fc : TF D} (ho : OpR X (compareOp op) r) (ho' : OpR X (compareOp op') r') (hf : OpD X.K r f) (hf' : OpD X.K r' f') (ha : DE X a Fa) (hb : DE X b Fb) (hc : DE X c Fc) (hm : lastMarks [op, op'] [b, c] = false := by rfl) :
    DE X (.Compare a [op, op'] [b, c] pos) (dChn f f' Fa Fb Fc) := by
  refine weakE (pe_chain ho ho' ha hb hc hm) fun σ H Q ⟨ρ, μ, Qd, s, g, k⟩ => Lift.go s g fun x μ1 vx H1 g1 s1 n1 r1 => Lift.go s1 g1 fun y μ2 vy H2 g2 s2 n2 r2 => ?_
  refine hf x y vx vy H2 μ2 _ _ s2.wd (r1.mono n2.ext) r2 g2 fun z vz H3 ⟨b, e, g3⟩ n3 r3 => ?_
  subst e
  cases r3
  refine ⟨b, rfl, ?_⟩
  have s3 := s2.next n3
  cases b with
  | true => exact Lift.go s3 g3 fun w' μ4 vw H4 g4 s4 n4 r4 => hf' y w' vy vw H4 μ4 _ _ s4.wd (r2.mono (n3.trans n4).ext) r4 g4 fun z vz H5 p n5 r5 => k z μ4 vz H5 p ((((n1.trans n2).trans n3).trans n4).trans n5) r5
  | false => exact k _ μ2 _ H3 g3 ((n1.trans n2).trans n3) (.bl false)
end
end DL
end

-- part DL4
section
namespace DL
open PySem L2

/-! ### targets -/
abbrev TGD := D → Env → (Env → Prop) → Prop
def gD (K : PySem.W.Frag) (slots : List Nat) (g : TGD) : TG := fun v σ H Q => ∃ (ρ : Env) (μ : Mu) (d : D) (k : Env → Prop), StOk K H μ σ ρ ∧ Rp K (hide H μ) v d ∧ g d ρ k ∧
  ∀ ρ' σ', k ρ' → StOk K H μ σ' ρ' → σ'.length = σ.length → (∀ j, j ∉ slots → σ'[j]? = σ[j]?) → Q σ' H
abbrev DG (X : Cx) (tg : Expr) (slots : List Nat) (g : TGD) : Prop := PG X tg (gD X.K slots g)
theorem weakG {X : Cx} {tg : Expr} {t t' : TG} (h : PG X tg t) (w : ∀ v σ H Q, t' v σ H Q → t v σ H Q) : PG X tg t' := ⟨fun pins s σ H v u Q I r q => h.run pins s σ H v u Q I r (w v σ H Q q)⟩
def gN (i : Nat) : TGD := fun d ρ k => k (ρ.set i (some d))
theorem dg_name (i : Nat) {X : Cx} {x : Str} {pos : Pos} (hN : X.N.Nodup) (hi : X.N[i]? = some x := by rfl) (hx : Loc X.env.scope x := by first | exact Or.inl rfl | exact Or.inr rfl) (hf : X.fn x = true ∨ X.env.scope.names.lookup x = some .local := by first | exact .inl rfl | exact .inr rfl | assumption) : DG X (.Name x pos) [i] (gN i) :=
  weakG (pg_name hN hi hx hf) fun v σ H Q ⟨ρ, μ, d, k, s, r, g, kk⟩ => kk _ _ g (s.set r i) (by rw [List.length_set]) fun j hj => List.getElem?_set_ne (fun e => hj (by simp [e]))
def gNames : List Nat → TGs
  | [] => gNil
  | i :: is => gCons (gName i) (gNames is)
def setAll : Env → List Nat → List D → Env
  | ρ, i :: is, d :: ds => setAll (ρ.set i (some d)) is ds
  | ρ, _, _ => ρ
def gT (is : List Nat) : TGD := fun d ρ k => ∃ ds, d = .tup ds ∧ ds.length = is.length ∧ k (setAll ρ is ds)
theorem gNames_go {K : PySem.W.Frag} {H : Hp} {μ : Mu} : ∀ (is : List Nat) (vs : List V) (ds : List D) (σ : L2.St) (ρ : Env) (Q : L2.St → Hp → Prop), StOk K H μ σ ρ → RpAll K (hide H μ) vs ds → ds.length = is.length →
    (∀ σ', StOk K H μ σ' (setAll ρ is ds) → σ'.length = σ.length → (∀ j, j ∉ is → σ'[j]? = σ[j]?) → Q σ' H) → gNames is vs σ H Q
  | [], vs, ds, σ, ρ, Q, s, r, hl, k => by
    have : ds = [] := List.length_eq_zero_iff.mp hl
    subst this
    cases r
    exact ⟨rfl, k σ s rfl fun _ _ => rfl⟩
  | i :: is, vs, ds, σ, ρ, Q, s, r, hl, k => by
    cases r with
    | nil => cases hl
    | @cons v vs d ds r t =>
      refine ⟨v, vs, rfl, gNames_go is vs ds _ (ρ.set i (some d)) Q (s.set r i) t (by simpa using hl) fun σ' s' h1 h2 => k σ' s' (by rw [h1, List.length_set]) fun j hj => ?_⟩
      rw [h2 j (fun m => hj (List.mem_cons_of_mem _ m)), List.getElem?_set_ne (fun e => hj (by simp [e]))]
theorem dg_tup (is : List Nat) {X : Cx} {es : List Expr} {k : Nat} {pos : Pos} (hc : X.calm = true) (h : PGs X es (gNames is)) (hn : (assignEach es X.env).length = is.length := by rfl) (hst : (assignEach es X.env).findIdx? (·.1) = none := by rfl) : DG X (.Tuple es k pos) is (gT is) :=
  weakG (pg_tup hc h hn hst) fun v σ H Q ⟨ρ, μ, d, k, s, r, ⟨ds, e, hl, g⟩, kk⟩ => by
    subst e
    cases r with
    | tup ha ra za => exact ⟨_, _, rfl, SqT.of (hide_in ha), ra.length.trans hl, gNames_go is _ ds σ ρ Q s ra hl fun σ' s' h1 h2 => kk _ σ' g s' h1 h2⟩
/-- target = value -/
def sAsg (F : TF D) (g : TGD) : TSD := fun E ρ μ => F ρ μ fun d μ1 => g d ρ fun ρ' => E.nx ρ' μ1
theorem ds_asg {X : Cx} {tg e : Expr} {F : TF D} {slots : List Nat} {g : TGD} {pos : Pos} (he : DE X e F) (hg : DG X tg slots g) (hs : swapsWithSole [tg] e pos.line X.env = pure false := by rfl) (hw : swappedStores [tg] e X.env = pure none := by rfl)
    (h1 : (assignEach [tg] X.env).map (·.2) = [assign tg X.env] := by rfl) : DS X (.Assign [tg] e pos) (sAsg F g) :=
  weakS (ps_asg he hg hs hw h1) fun D' σ H ⟨ρ, μ, E, s, f, c⟩ => Lift.go s f fun d μ1 v H1 g1 s1 n1 r1 => ⟨ρ, μ1, d, _, s1, r1, g1, fun ρ' σ' k s' _ _ => c.nx ρ' μ1 σ' H1 k s' n1⟩

/-! ### what a loop walks -/
def Yields (K : PySem.W.Frag) (J : It) (H : Hp) (μ : Mu) (ds : List D) : Prop := ds.length ≤ sizeLine ∧ ∀ H' μ', Nx K H μ H' μ' → ∀ i : Nat,
  (ds.length ≤ i → J.stop i H') ∧ ∀ d, ds[i]? = some d → J.go i H' ∧ ∀ x H2, J.yld i H' x H2 → Nx K H' μ' H2 μ' ∧ Rp K (hide H2 μ') x d
def tTI (K : PySem.W.Frag) (F : TF (List D)) : TI := fun σ H R => ∃ (ρ : Env) (μ : Mu) (Qd : List D → Mu → Prop), StOk K H μ σ ρ ∧ F ρ μ Qd ∧ ∀ ds μ' J H', Qd ds μ' → Nx K H μ H' μ' → Yields K J H' μ' ds → R J H'
abbrev DI (X : Cx) (tg e : Expr) (F : TF (List D)) : Prop := PI X tg e (tTI X.K F)
section
variable {K : PySem.W.Frag}
theorem Yields.after {J : It} {H H' : Hp} {μ μ' : Mu} {ds : List D} (y : Yields K J H μ ds) (n : Nx K H μ H' μ') : Yields K J H' μ' ds := ⟨y.1, fun H2 μ2 m i => y.2 H2 μ2 (n.trans m) i⟩
theorem yields_l {H : Hp} {μ : Mu} {a : Addr} {xs : List V} {ds : List D} (ha : hide H μ a = some (.lst xs)) (ra : RpAll K (hide H μ) xs ds) (za : ds.length ≤ sizeLine) : Yields K (Itl K a) H μ ds := ⟨za, fun H' μ' n i => by
  have q : SqL K H' a xs := SqL.of (hide_in (n.ext _ _ ha))
  refine ⟨fun hi => ⟨xs, q, by rw [ra.length]; exact hi⟩, fun d hd => ?_⟩
  obtain ⟨v, h1, h2⟩ := ra.get hd
  refine ⟨⟨xs, v, q, h1⟩, fun x H2 ⟨e, y⟩ => ?_⟩
  subst e
  have := y xs q
  rw [h1] at this
  cases this
  exact ⟨Nx.refl n.wd, h2.mono n.ext⟩⟩
theorem yields_t {H : Hp} {μ : Mu} {a : Addr} {xs : List V} {ds : List D} (ha : hide H μ a = some (.tup xs)) (ra : RpAll K (hide H μ) xs ds) (za : ds.length ≤ sizeLine) : Yields K (Itt K a) H μ ds := ⟨za, fun H' μ' n i => by
  have q : SqT K H' a xs := SqT.of (hide_in (n.ext _ _ ha))
  refine ⟨fun hi => ⟨xs, q, by rw [ra.length]; exact hi⟩, fun d hd => ?_⟩
  obtain ⟨v, h1, h2⟩ := ra.get hd
  refine ⟨⟨xs, v, q, h1⟩, fun x H2 ⟨e, y⟩ => ?_⟩
  subst e
  have := y xs q
  rw [h1] at this
  cases this
  exact ⟨Nx.refl n.wd, h2.mono n.ext⟩⟩
/-- lo, lo + 1, .. -/
def rngD (lo : Int) (n : Nat) : List D := (List.range n).map fun i => .int (lo + (i : Nat))
theorem yields_r {H : Hp} {μ : Mu} {lo : Int} {n : Nat} (hz : n ≤ sizeLine) : Yields K (Itr lo n) H μ (rngD lo n) := ⟨by simpa [rngD] using hz, fun H' μ' m i => by
  refine ⟨fun hi => ?_, fun d hd => ?_⟩
  · show n ≤ i
    simpa [rngD] using hi
  · have hi : i < n := by
      have := (List.getElem?_eq_some_iff.mp hd).1
      simpa [rngD] using this
    refine ⟨hi, fun x H2 ⟨e, y⟩ => ?_⟩
    subst e; subst y
    have : d = .int (lo + (i : Nat)) := by
      unfold rngD at hd
      rw [List.getElem?_map, List.getElem?_range hi] at hd
      exact (Option.some.inj hd).symm
    subst this
    exact ⟨Nx.refl m.wd, .int _⟩⟩
end
/-- a list, a tuple -/
def iSeq (F : TF D) : TF (List D) := fun ρ μ Q => F ρ μ fun d μ1 => match d with
  | .lst ds => Q ds μ1
  | .tup ds => Q ds μ1
  | _ => False
section
variable {X : Cx} {tg : Expr}
theorem pi_or {l : Expr} {tl : TE} (hl : PE X l tl) : PI X tg l (fun σ H R => tl σ H fun x H1 => (∃ a, x = .ref a ∧ (∃ xs, SqL X.K H1 a xs) ∧ R (Itl X.K a) H1) ∨ ∃ a, x = .ref a ∧ (∃ xs, SqT X.K H1 a xs) ∧ R (Itt X.K a) H1) := by
  constructor
  intro pins s σ H R I h
  -- either kind begins a walk of its own kind: pi_one lays the iterator
  refine thn (hl.run pins s σ H _ I h) ?_
  rintro v s1 ⟨x, H1, I1, r1, ⟨a, rfl, ⟨xs, hq⟩, q⟩ | ⟨a, rfl, ⟨xs, hq⟩, q⟩⟩ <;> cases r1
  · have ⟨its, _, isList, _⟩ := I1.list hq
    exact PySem.wpAny_pyIter_list isList.isList (pi_one I1 _ (turn_list a _) ⟨_, Heap.get?_push_size _ rfl, rfl, rfl⟩ q)
  · have ⟨its, _, isTup, _⟩ := I1.tuple hq
    exact PySem.wpAny_pyIter_tuple (show s1.heap.IsTuple a its.toArray from isTup) (pi_one I1 _ (turn_tuple a _) ⟨_, Heap.get?_push_size _ rfl, rfl, rfl⟩ q)
theorem di_seq {l : Expr} {F : TF D} (hl : DE X l F) : DI X tg l (iSeq F) :=
  weakI (pi_or hl) fun σ H R ⟨ρ, μ, Qd, s, hf, k⟩ => Lift.go s hf fun d μ1 v H1 g1 s1 n1 r1 => by
    cases r1 <;> try exact False.elim g1
    · rename_i ha ra za
      exact .inr ⟨_, rfl, ⟨_, SqT.of (hide_in ha)⟩, k _ μ1 _ H1 g1 n1 (yields_t ha ra za)⟩
    · rename_i ha ra za
      exact .inl ⟨_, rfl, ⟨_, SqL.of (hide_in ha)⟩, k _ μ1 _ H1 g1 n1 (yields_l ha ra za)⟩
def smI (i : Int) : Prop := -1000000 ≤ i ∧ i ≤ 1000000
theorem smI.a {i : Int} (h : smI i) : -(2 ^ 62) ≤ i ∧ i < 2 ^ 62 := ⟨by have := h.1; omega, by have := h.2; omega⟩
theorem smI.z {i : Int} (h : smI i) : i.toNat ≤ sizeLine := Nat.le_trans (by have := h.2; omega : i.toNat ≤ 1000000) (by decide)
theorem smI.z2 {i j : Int} (h : smI i) (h' : smI j) : (j - i).toNat ≤ sizeLine := Nat.le_trans (by have := h.1; have := h'.2; omega : (j - i).toNat ≤ 2000000) (by decide)
def iRg1 (A : TF (List D)) : TF (List D) := fun ρ μ Q => A ρ μ fun ds μ1 => match ds with
  | [.int n] => smI n ∧ Q (rngD 0 n.toNat) μ1
  | _ => False
def iRg2 (A : TF (List D)) : TF (List D) := fun ρ μ Q => A ρ μ fun ds μ1 => match ds with
  | [.int lo, .int n] => smI lo ∧ smI n ∧ Q (rngD lo (n - lo).toNat) μ1
  | _ => False
theorem di_rg1 {a : Expr} {A : TF (List D)} {p pos : Pos} (hg : Gl X "range") (hm : X.mg "range" = none) (ha : DA X [a] A) (hs : starEach [a] X.env = [(false, eval a X.env)] := by rfl) : DI X tg (.Call (.Name "range" p) [a] [] pos) (iRg1 A) :=
  weakI (pi_range1 hg hm ha hs) fun σ H R ⟨ρ, μ, Qd, s, hf, k⟩ => Lift.go s hf fun ds μ1 vs H1 g1 s1 n1 r1 => by
    split at g1
    · obtain ⟨v, rfl, r⟩ := rp1 r1
      cases r
      exact ⟨_, rfl, g1.1.a.1, g1.1.a.2, k _ μ1 _ H1 g1.2 n1 (yields_r g1.1.z)⟩
    · exact False.elim g1
theorem di_rg2 {a b : Expr} {A : TF (List D)} {p pos : Pos} (hg : Gl X "range") (hm : X.mg "range" = none) (ha : DA X [a, b] A) (hs : starEach [a, b] X.env = [(false, eval a X.env), (false, eval b X.env)] := by rfl) (hs2 : starEach [b] X.env = [(false, eval b X.env)] := by rfl) :
    DI X tg (.Call (.Name "range" p) [a, b] [] pos) (iRg2 A) :=
  weakI (pi_range2 hg hm ha hs hs2) fun σ H R ⟨ρ, μ, Qd, s, hf, k⟩ => Lift.go s hf fun ds μ1 vs H1 g1 s1 n1 r1 => by
    split at g1
    · obtain ⟨v, u, rfl, r, r'⟩ := rp2 r1
      cases r; cases r'
      exact ⟨_, _, rfl, ⟨g1.1.a.1, g1.1.a.2, g1.2.1.a.1, g1.2.1.a.2⟩, k _ μ1 _ H1 g1.2.2 n1 (yields_r (g1.1.z2 g1.2.1))⟩
    · exact False.elim g1
end

/-! ### for, while -/
def sFor (F : TF (List D)) (g : TGD) (body : TSD) : TSD := fun E ρ μ => F ρ μ fun ds μ1 => ∃ I : Nat → Env → Mu → Prop, I 0 ρ μ1 ∧
  (∀ i d ρ' μ', ds[i]? = some d → I i ρ' μ' → g d ρ' fun ρ2 => body { E with nx := I (i + 1), ct := I (i + 1), bk := E.nx } ρ2 μ') ∧ ∀ ρ' μ', I ds.length ρ' μ' → E.nx ρ' μ'
theorem ds_for {X : Cx} {pos : Pos} {tg iter : Expr} {body : List Stmt} {F : TF (List D)} {slots : List Nat} {g : TGD} {G : TSD} (hp : PassesOwn (model X.prog X.w) X.A X.env X.xe) (hc : X.calm = true) (hi : DI X tg iter F) (hg : DG X tg slots g) (hb : DSs X body G)
    (hs : ∀ x, foldedSetIterable iter X.env x = pure x := by intro _; rfl) : DS X (.For tg iter body [] pos) (sFor F g G) := by
  refine weakS (ps_for hp hc hi hg hb hs) fun D' σ H ⟨ρ, μ, E, s, f, c⟩ => ⟨ρ, μ, _, s, f, fun ds μ1 J H1 ⟨I, i0, step, fin⟩ n1 y => ?_⟩
  refine ⟨fun i m σ' H' => m = ds.length - i ∧ i ≤ ds.length ∧ ∃ ρ' μ', I i ρ' μ' ∧ StOk X.K H' μ' σ' ρ' ∧ Nx X.K H1 μ1 H' μ', ⟨_, rfl, Nat.zero_le _, ρ, μ1, i0, s.next n1, Nx.refl n1.wd⟩, ?_⟩
  rintro i m σ' H' ⟨rfl, hi, ρ', μ', hI, s', n'⟩
  obtain ⟨y1, y2⟩ := y.2 H' μ' n' i
  by_cases hlt : i < ds.length
  · obtain ⟨go, yl⟩ := y2 ds[i] (by simp [hlt])
    refine .inr ⟨go, fun σ2 H2 => ∃ ρ2 μ2, I (i + 1) ρ2 μ2 ∧ StOk X.K H2 μ2 σ2 ρ2 ∧ Nx X.K H1 μ1 H2 μ2, fun σ2 H2 ⟨ρ2, μ2, a, b, d⟩ => ⟨_, by omega, rfl, hlt, ρ2, μ2, a, b, d⟩, fun x H2 hx => ?_⟩
    obtain ⟨n2, r2⟩ := yl x H2 hx
    refine ⟨ρ', μ', ds[i], _, s'.next n2, r2, step i ds[i] ρ' μ' (by simp [hlt]) hI, fun ρ3 σ3 hb s3 _ _ => ⟨ρ3, μ', _, s3, hb, ?_⟩⟩
    have nn := n'.trans n2
    exact ⟨fun ρ4 μ4 σ4 H4 a s4 n4 => ⟨ρ4, μ4, a, s4, nn.trans n4⟩, fun d μ4 v H4 a n4 r4 => c.rt d μ4 v H4 a ((n1.trans nn).trans n4) r4, fun ρ4 μ4 σ4 H4 a s4 n4 => c.nx ρ4 μ4 σ4 H4 a s4 ((n1.trans nn).trans n4), fun ρ4 μ4 σ4 H4 a s4 n4 => ⟨ρ4, μ4, a, s4, nn.trans n4⟩⟩
  · have e : i = ds.length := by omega
    subst e
    exact .inl ⟨y1 (Nat.le_refl _), c.nx ρ' μ' σ' H' (fin ρ' μ' hI) s' (n1.trans n')⟩
def sWhile (A : TF Bool) (body : TSD) : TSD := fun E ρ μ => ∃ I : Nat → Env → Mu → Prop, (∃ m, I m ρ μ) ∧
  ∀ m ρ' μ', I m ρ' μ' → A ρ' μ' fun b μ2 => if b = true then body { E with nx := fun ρ2 μ3 => ∃ m', m' < m ∧ I m' ρ2 μ3, ct := fun ρ2 μ3 => ∃ m', m' < m ∧ I m' ρ2 μ3, bk := E.nx } ρ' μ2 else E.nx ρ' μ2
theorem ds_while {X : Cx} {pos : Pos} {c : Expr} {body : List Stmt} {A : TF Bool} {G : TSD} (hp : PassesOwn (model X.prog X.w) X.A X.env X.xe) (hc : DT X c A) (hb : DSs X body G) : DS X (.While c body [] pos) (sWhile A G) := by
  refine weakS (ps_while hp hc hb) fun D' σ H ⟨ρ, μ, E, s, ⟨I, ⟨m0, i0⟩, turn⟩, cn⟩ => ?_
  refine ⟨fun m σ' H' => ∃ ρ' μ', I m ρ' μ' ∧ StOk X.K H' μ' σ' ρ' ∧ Nx X.K H μ H' μ', ⟨m0, ρ, μ, i0, s, Nx.refl s.wd⟩, ?_⟩
  rintro m σ' H' ⟨ρ', μ', hI, s', n'⟩
  refine Lift.go (F := A) (R := RB) s' (turn m ρ' μ' hI) fun b μ2 v H2 g2 s2 n2 e2 => ?_
  cases (show v = b from e2)
  cases b with
  | true =>
    refine ⟨fun σ3 H3 => ∃ m', m' < m ∧ ∃ ρ3 μ3, I m' ρ3 μ3 ∧ StOk X.K H3 μ3 σ3 ρ3 ∧ Nx X.K H μ H3 μ3, fun σ3 H3 ⟨m', a, b⟩ => ⟨m', a, b⟩, ρ', μ2, _, s2, g2, ?_⟩
    have nn := n'.trans n2
    exact ⟨fun ρ4 μ4 σ4 H4 ⟨m', a, b⟩ s4 n4 => ⟨m', a, ρ4, μ4, b, s4, nn.trans n4⟩, fun d μ4 v H4 a n4 r4 => cn.rt d μ4 v H4 a (nn.trans n4) r4, fun ρ4 μ4 σ4 H4 a s4 n4 => cn.nx ρ4 μ4 σ4 H4 a s4 (nn.trans n4), fun ρ4 μ4 σ4 H4 ⟨m', a, b⟩ s4 n4 => ⟨m', a, ρ4, μ4, b, s4, nn.trans n4⟩⟩
  | false => exact cn.nx ρ' μ2 σ' H2 g2 s2 (n'.trans n2)

/-! ### comprehensions -/
def wipeE (ρ : Env) : List Nat → Env
  | [] => ρ
  | v :: vs => (wipeE ρ vs).set v none
theorem wipeE_length (ρ : Env) : ∀ vs : List Nat, (wipeE ρ vs).length = ρ.length
  | [] => rfl
  | v :: vs => by unfold wipeE; rw [List.length_set, wipeE_length ρ vs]
theorem renv_wipe {K : PySem.W.Frag} {G : Hp} {σ : L2.St} {ρ : Env} (r : Renv K G σ ρ) : ∀ vs : List Nat, Renv K G (wipe σ vs) (wipeE ρ vs)
  | [] => r
  | v :: vs => by
    have ih := renv_wipe r vs
    refine ⟨by rw [wipe_length, wipeE_length]; exact r.1, fun i d h => ?_⟩
    unfold wipeE at h
    unfold wipe
    by_cases hi : v = i
    · subst hi
      by_cases hl : v < (wipeE ρ vs).length
      · rw [List.getElem?_set_self hl] at h; cases h
      · rw [List.getElem?_eq_none (by simpa using hl)] at h; cases h
    · rw [List.getElem?_set_ne hi] at h ⊢
      exact ih.2 i d h
theorem wipe_at (σ : L2.St) : ∀ (vs : List Nat) (i : Nat), (wipe σ vs)[i]? = if i ∈ vs then (if i < σ.length then some none else none) else σ[i]?
  | [], i => by simp [wipe]
  | v :: vs, i => by
    unfold wipe
    by_cases hi : v = i
    · subst hi
      by_cases hl : v < σ.length
      · rw [List.getElem?_set_self (by rw [wipe_length]; exact hl)]; simp [hl]
      · rw [List.getElem?_eq_none (by rw [List.length_set, wipe_length]; omega)]; simp [hl]
    · rw [List.getElem?_set_ne hi, wipe_at σ vs i]
      have : (i ∈ v :: vs) = (i ∈ vs) := by simp [Ne.symm hi]
      simp only [this]
theorem wipe_same {σ σ2 : L2.St} {vs slots : List Nat} (hl : σ2.length = (wipe σ vs).length) (hj : ∀ j, j ∉ slots → σ2[j]? = (wipe σ vs)[j]?) (hs : ∀ j ∈ slots, j ∈ vs) : wipe σ2 vs = wipe σ vs := by
  apply List.ext_getElem?
  intro i
  rw [wipe_at, wipe_at]
  rw [wipe_length] at hl
  by_cases hi : i ∈ vs
  · simp only [if_pos hi, hl]
  · simp only [if_neg hi]
    rw [hj i (fun m => hi (hs i m)), wipe_at, if_neg hi]
abbrev DTs (X : Cx) (ifs : List Expr) (A : TF Bool) : Prop := PTs X ifs (tDT X.K A)
def yesD : TF Bool := fun _ μ Q => Q true μ
theorem dts_nil {X : Cx} : DTs X [] yesD := ⟨fun pins s σ H Q I ⟨ρ, μ, Qd, st, hf, k⟩ => pts_nil.run pins s σ H Q I (k true μ true H hf (Nx.refl st.wd) rfl)⟩
theorem dts_one {X : Cx} {c : Expr} {A : TF Bool} (h : DT X c A) : DTs X [c] A := pts_one h
/-- one turn: what it gives (some y), or nothing -/
def lcTurn (g : TGD) (A : TF Bool) (Fe : TF D) (ρw : Env) (d : D) (μ : Mu) (N : Option D → Mu → Prop) : Prop := g d ρw fun ρ2 => A ρ2 μ fun b μ2 => if b = true then Fe ρ2 μ2 fun y μ3 => N (some y) μ3 else N none μ2
def dLc (F : TF (List D)) (g : TGD) (A : TF Bool) (Fe : TF D) (vs : List Nat) : TF D := fun ρ μ Q => F ρ μ fun ds μ1 => ∀ p, μ1 p = none → ∃ I : Nat → Mu → Prop, I 0 (μ1.put p (.lst [])) ∧
  (∀ i d μ', ds[i]? = some d → I i μ' → lcTurn g A Fe (wipeE ρ vs) d μ' fun r μ3 => match r with
    | some y => ∃ acc, μ3 p = some (.lst acc) ∧ acc.length ≤ i ∧ I (i + 1) (μ3.put p (.lst (acc ++ [y])))
    | none => I (i + 1) μ3) ∧ ∀ μ', I ds.length μ' → ∃ acc, μ' p = some (.lst acc) ∧ Q (.lst acc) (μ'.del p)
theorem lc_go {K : PySem.W.Frag} {F : TF (List D)} {slots vs : List Nat} {g : TGD} {A : TF Bool} {Fe : TF D} (hs : ∀ j ∈ slots, j ∈ vs) {σ : L2.St} {H : Hp} {Q : VK} (h : tD K (dLc F g A Fe vs) σ H Q) : tLc (tTI K F) (gD K slots g) (tDT K A) (tD K Fe) vs σ H Q := by
  obtain ⟨ρ, μ, Qd, s, f, k⟩ := h
  refine ⟨ρ, μ, _, s, f, fun ds μ1 J H1 gg n1 y p hp => ?_⟩
  have hz := y.1
  have hm := n1.wd.free hp
  obtain ⟨I, i0, step, fin⟩ := gg p hm
  have n0 : Nx K H1 μ1 (upd H1 p (.lst [])) (μ1.put p (.lst [])) := Nx.put n1.wd (fun _ => hp) ⟨[], rfl, .nil, by show 0 ≤ sizeLine; decide⟩
  refine ⟨fun i m H' => m = ds.length - i ∧ i ≤ ds.length ∧ ∃ μ', I i μ' ∧ Nx K H1 μ1 H' μ', ⟨_, rfl, Nat.zero_le _, _, i0, n0⟩, ?_⟩
  rintro i m H' ⟨rfl, hi, μ', hI, n'⟩
  obtain ⟨y1, y2⟩ := y.2 H' μ' n' i
  by_cases hlt : i < ds.length
  · obtain ⟨go, yl⟩ := y2 ds[i] (by simp [hlt])
    refine .inr ⟨go, fun H2 => ∃ μ2, I (i + 1) μ2 ∧ Nx K H1 μ1 H2 μ2, fun H2 ⟨μ2, a, b⟩ => ⟨_, by omega, rfl, hlt, μ2, a, b⟩, fun x H2 hx => ?_⟩
    obtain ⟨n2, r2⟩ := yl x H2 hx
    have s2 : StOk K H2 μ' (wipe σ vs) (wipeE ρ vs) := by
      have q := (s.next n1).next (n'.trans n2)
      exact ⟨renv_wipe q.env vs, q.wd⟩
    refine ⟨wipeE ρ vs, μ', ds[i], _, s2, r2, step i ds[i] μ' (by simp [hlt]) hI, fun ρ3 σ3 hb s3 hl hj => ⟨wipe_same hl hj hs, ?_⟩⟩
    refine Lift.go (F := A) (R := RB) s3 hb fun b μ4 v H4 g4 s4 n4 e4 => ?_
    cases (show v = b from e4)
    have nn := (n'.trans n2).trans n4
    cases b with
    | true =>
      rw [if_pos rfl]
      refine Lift.go s4 g4 fun yd μ5 yv H5 ⟨acc, ha, hl5, hI5⟩ s5 n5 r5 => ?_
      obtain ⟨xs, e5, ra, za⟩ := s5.wd p _ ha
      refine ⟨xs, e5, by rw [ra.length]; omega, _, hI5, (nn.trans n5).trans (Nx.put s5.wd (fun z => by rw [ha] at z; cases z) ⟨_, rfl, ra.append (.cons r5 .nil), by rw [List.length_append, List.length_singleton]; omega⟩)⟩
    | false =>
      rw [if_neg Bool.false_ne_true]
      exact ⟨μ4, g4, nn⟩
  · have e : i = ds.length := by omega
    subst e
    refine .inl ⟨y1 (Nat.le_refl _), ?_⟩
    obtain ⟨acc, ha, q⟩ := fin μ' hI
    obtain ⟨n6, r6⟩ := Nx.frz n'.wd ha
    exact k _ _ _ H' q ((n1.trans n').trans n6) r6
section
variable {X : Cx} {elt tg iter : Expr} {ifs : List Expr} {scope : Scope} {own : List (Str × Nat)} {pos : Pos} {F : TF (List D)} {slots : List Nat} {g : TGD} {A : TF Bool} {Fe : TF D}
theorem de_lc (own : List (Str × Nat)) (hc : X.calm = true) (hN : X.N.Nodup) (hi : DI X tg iter F) (ok : BlkOk X.N X.env.scope scope own)
    (hg : ∀ (s : Shared) (H : Hp) (C : Addr) (cl : List (Str × Addr)) (fp : List Addr), DG (X.blk s H scope (compEnvC scope cl C X.env) fp) tg slots g) (ht : ∀ (s : Shared) (H : Hp) (C : Addr) (cl : List (Str × Addr)) (fp : List Addr), DTs (X.blk s H scope (compEnvC scope cl C X.env) fp) ifs A)
    (he : ∀ (s : Shared) (H : Hp) (C : Addr) (cl : List (Str × Addr)) (fp : List Addr), DE (X.blk s H scope (compEnvC scope cl C X.env) fp) elt Fe) (hsl : ∀ j ∈ slots, j ∈ own.map (·.2) := by decide) (hs : ∀ x, foldedSetIterable iter X.env x = pure x := by intro _; rfl) :
    DE X (.ListComp elt [⟨tg, iter, ifs, 0⟩] scope pos) (dLc F g A Fe (own.map (·.2))) := weakE (pe_lc hc hN hi ok hg ht he hs) fun σ H Q h => lc_go hsl h
theorem ds_setLc (i : Nat) (own : List (Str × Nat)) {y : Str} {py spos : Pos} (hc : X.calm = true) (hN : X.N.Nodup) (hsw : swapsWith (.ListComp elt [⟨tg, iter, ifs, 0⟩] scope pos) (some (.Name y py)) spos.line X.env = pure true) (hi : DI X tg iter F) (ok : BlkOk X.N X.env.scope scope own)
    (hg : ∀ (s : Shared) (H : Hp) (C : Addr) (cl : List (Str × Addr)) (fp : List Addr), DG (X.blk s H scope (compEnvC scope cl C X.env) fp) tg slots g) (ht : ∀ (s : Shared) (H : Hp) (C : Addr) (cl : List (Str × Addr)) (fp : List Addr), DTs (X.blk s H scope (compEnvC scope cl C X.env) fp) ifs A)
    (he : ∀ (s : Shared) (H : Hp) (C : Addr) (cl : List (Str × Addr)) (fp : List Addr), DE (X.blk s H scope (compEnvC scope cl C X.env) fp) elt Fe) (hsl : ∀ j ∈ slots, j ∈ own.map (·.2) := by decide) (hy : X.N[i]? = some y := by rfl) (hyl : X.env.scope.names.lookup y = some .local := by rfl) (hs : ∀ x, foldedSetIterable iter X.env x = pure x := by intro _; rfl) :
    DS X (.Assign [.Name y py] (.ListComp elt [⟨tg, iter, ifs, 0⟩] scope pos) spos) (sSet i (dLc F g A Fe (own.map (·.2)))) :=
  weakS (ps_setLc hc hN hy hyl hsw hi ok hg ht he hs) fun D' σ H ⟨ρ, μ, E, s, f, c⟩ => lc_go (Q := fun x H1 => D'.nx (σ.set i (some x)) H1) hsl ⟨ρ, μ, _, s, f, fun d μ1 v H1 g1 n1 r1 => c.nx _ μ1 _ H1 g1 ((s.next n1).set r1 i) n1⟩
end

/-! ### lists that change -/
section
variable {X : Cx} {pos apos : Pos} {o e : Expr} {Fo Fe : TF D}
def sApp (Fo Fe : TF D) : TSD := fun E ρ μ => Fo ρ μ fun x μ1 => ∃ p ds', x = .ptr p ∧ μ1 p = some (.lst ds') ∧ Fe ρ μ1 fun y μ2 => ∃ ds, μ2 p = some (.lst ds) ∧ ds.length < sizeLine ∧ E.nx ρ (μ2.put p (.lst (ds ++ [y])))
theorem ds_app {cpos : Pos} (ho : DE X o Fo) (he : DE X e Fe) (hbase : attributeBase o "append" X.env (eval o X.env) = eval o X.env := by rfl)
    (hfew : ((backTo cpos (starEach [e] X.env)).all (fun x => !x.1) && (backToKw cpos (keywordEach [] X.env)).all (fun x => x.1.isSome)
      && decide (([e] : List Expr).length + ([] : List Keyword).length + (if ([] : List Keyword).isEmpty then 0 else 1) < 30)) = true := by rfl)
    (hline : (apos.endLine == cpos.line) = true := by rfl) (hs : starEach [e] X.env = (false, eval e X.env) :: starEach [] X.env := by rfl) (hplain : (backTo cpos (starEach [] X.env)).any (·.1) = false := by rfl)
    (hsw : swapsWith (.Call (.Attribute o "append" apos) [e] [] cpos) none pos.line X.env = pure false := by rfl) : DS X (.Expr (.Call (.Attribute o "append" apos) [e] [] cpos) pos) (sApp Fo Fe) :=
  weakS (ps_expr (pe_bm PySem.F.plainAttrs_list PySem.F.slot_list_append PySem.F.type_list_append mt_append ho (pa_cons he pa_nil hs) hbase hfew hline hs hplain) hsw) fun D' σ H ⟨ρ, μ, E, s, f, c⟩ =>
    Lift.go (F := Fo) s f fun x μ1 v H1 ⟨p, ds', ex, hp1, g1⟩ s1 n1 r1 => by
      subst ex
      cases r1
      obtain ⟨xs', e1, _, _⟩ := s1.wd p _ hp1
      refine ⟨.inl ⟨rfl, _, SqL.of e1⟩, Lift.go (F := Fe) s1 g1 fun y μ2 vy H2 ⟨ds, hp2, hl, g2⟩ s2 n2 r2 => ?_⟩
      obtain ⟨xs, e2, ra, za⟩ := s2.wd p _ hp2
      have n3 : Nx X.K H2 μ2 (upd H2 p (.lst (xs ++ [vy]))) (μ2.put p (.lst (ds ++ [y]))) := Nx.put s2.wd (fun z => by rw [hp2] at z; cases z) ⟨_, rfl, ra.append (.cons r2 .nil), by rw [List.length_append, List.length_singleton]; omega⟩
      exact ⟨p, xs, vy, rfl, rfl, e2, by rw [ra.length]; exact hl, c.nx ρ _ σ _ g2 (s2.next n3) ((n1.trans n2).trans n3)⟩
/-- o[i] = e, o a list that changes -/
def sSetIx (Fo Fi Fe : TF D) : TSD := fun E ρ μ => Fe ρ μ fun y μ1 => Fo ρ μ1 fun x μ2 => Fi ρ μ2 fun i μ3 => ∃ p ds j k, x = .ptr p ∧ i = .int j ∧ μ3 p = some (.lst ds) ∧ ixN ds.length j = some k ∧ E.nx ρ (μ3.put p (.lst (ds.set k y)))
theorem ds_setIx {i : Expr} {Fi : TF D} {spos : Pos} (ho : DE X o Fo) (hi : DE X i Fi) (he : DE X e Fe)
    (ha : ∀ v, assign (.Subscript o i pos) X.env v = (do
      let ov ← holding [v] (eval o X.env)
      let iv ← holding [v, ov] (eval i X.env)
      standAt pos
      holding [v, ov, iv] (setItem ov iv v)
      release [v, ov, iv] []) := by intro _; rfl)
    (hs : swapsWithSole [.Subscript o i pos] e spos.line X.env = pure false := by rfl) (hw : swappedStores [.Subscript o i pos] e X.env = pure none := by rfl)
    (h1 : (assignEach [.Subscript o i pos] X.env).map (·.2) = [assign (.Subscript o i pos) X.env] := by rfl) : DS X (.Assign [.Subscript o i pos] e spos) (sSetIx Fo Fi Fe) :=
  weakS (ps_asg he (pg_sub ho hi set_list ha) hs hw h1) fun D' σ H ⟨ρ, μ, E, s, f, c⟩ =>
    Lift.go (F := Fe) s f fun y μ1 vy H1 g1 s1 n1 r1 => Lift.go (F := Fo) s1 g1 fun x μ2 vx H2 g2 s2 n2 r2 => Lift.go (F := Fi) s2 g2 fun i μ3 vi H3 ⟨p, ds, j, k, ex, ei, hp, hk, g3⟩ s3 n3 r3 => by
      subst ex; subst ei
      cases r2; cases r3
      obtain ⟨xs, e3, ra, za⟩ := s3.wd p _ hp
      have n4 : Nx X.K H3 μ3 (upd H3 p (.lst (xs.set k vy))) (μ3.put p (.lst (ds.set k y))) := Nx.put s3.wd (fun z => by rw [hp] at z; cases z) ⟨_, rfl, ra.set (r1.mono (n2.trans n3).ext) k, by rw [List.length_set]; exact za⟩
      exact ⟨p, xs, j, k, rfl, rfl, e3, by rw [ra.length]; exact hk, c.nx ρ _ σ _ g3 (s3.next n4) (((n1.trans n2).trans n3).trans n4)⟩
/-- name += e, ints -/
def sAugI (i : Nat) (Fe : TF D) (h : Int → Int → Int) : TSD := fun E ρ μ => ∃ a, ρ[i]? = some (some (.int a)) ∧ Fe ρ μ fun y μ1 => ∃ b, y = .int b ∧ E.nx (ρ.set i (some (.int (h a b)))) μ1
theorem ds_augI (i : Nat) {x : Str} {op : Operator} {h : Int → Int → Int} {pos' : Pos} (hN : X.N.Nodup) (he : DE X e Fe) (ho : PIp X op (ipI h)) (hi : X.N[i]? = some x := by rfl) (hx : Loc X.env.scope x := by first | exact Or.inl rfl | exact Or.inr rfl) (hf : X.fn x = true ∨ X.env.scope.names.lookup x = some .local := by first | exact .inl rfl | exact .inr rfl | assumption) :
    DS X (.AugAssign (.Name x pos') op e pos) (sAugI i Fe h) :=
  weakS (ps_aug hN hi hx he ho hf) fun D' σ H ⟨ρ, μ, E, s, ⟨a, ea, f⟩, c⟩ => by
    obtain ⟨v, hv, rv⟩ := s.env.2 i _ ea
    cases rv
    refine ⟨_, hv, Lift.go (F := Fe) s f fun y μ1 vy H1 ⟨b, eb, g1⟩ s1 n1 r1 => ?_⟩
    subst eb
    cases r1
    exact ⟨a, b, rfl, rfl, c.nx _ μ1 _ H1 g1 (s1.set (.int _) i) n1⟩
end
end DL
end

-- part DL5
section
namespace DL
open PySem L2
section
variable {K : PySem.W.Frag}
def fSub : F2 := fII (fun _ _ => True) fun i j => .int (i - j)
def fFdiv : F2 := fII CDiv fun i j => .int (i / j)
def fMod : F2 := fII (fun _ j => 0 < j) fun i j => .int (i % j)
def fPow : F2 := fII CPow fun i j => .int (i ^ j.toNat)
def fShl : F2 := fII CPow fun i j => .int (i * 2 ^ j.toNat)
def fShr : F2 := fII (fun _ j => 0 ≤ j) fun i j => .int (i / 2 ^ j.toNat)
def fAnd : F2 := fII (fun _ _ => True) fun i j => .int (Builtin.bitAnd i j)
theorem od_sub : OpD K (rI0 fun i j => V.int (i - j)) fSub := od_ii0 fun _ _ _ => .int _
theorem od_fdiv : OpD K (rI CDiv fun i j => V.int (i / j)) fFdiv := od_ii fun _ _ _ => .int _
theorem od_mod : OpD K (rI (fun _ j => 0 < j) fun i j => V.int (i % j)) fMod := od_ii fun _ _ _ => .int _
theorem od_pow : OpD K (rI CPow fun i j => V.int (i ^ j.toNat)) fPow := od_ii fun _ _ _ => .int _
theorem od_shl : OpD K (rI CPow fun i j => V.int (i * 2 ^ j.toNat)) fShl := od_ii fun _ _ _ => .int _
theorem od_shr : OpD K (rI (fun _ j => 0 ≤ j) fun i j => V.int (i / 2 ^ j.toNat)) fShr := od_ii fun _ _ _ => .int _
theorem od_and : OpD K (rI0 fun i j => V.int (Builtin.bitAnd i j)) fAnd := od_ii0 fun _ _ _ => .int _
theorem od_lt : OpD K (fun x y H Q => (rI0 fun i j => .bl (decide (i < j))) x y H Q ∨ (∃ i j, x = V.str i ∧ y = V.str j ∧ Q (.bl (decide (i.cps.toList < j.cps.toList))) H)) fLt := od_cmp
theorem od_le : OpD K (fun x y H Q => (rI0 fun i j => .bl (decide (i ≤ j))) x y H Q ∨ (∃ i j, x = V.str i ∧ y = V.str j ∧ Q (.bl (!decide (j.cps.toList < i.cps.toList))) H)) fLe := od_cmp
theorem od_gt : OpD K (fun x y H Q => (rI0 fun i j => .bl (decide (j < i))) x y H Q ∨ (∃ i j, x = V.str i ∧ y = V.str j ∧ Q (.bl (decide (j.cps.toList < i.cps.toList))) H)) fGt := od_cmp
theorem od_ge : OpD K (fun x y H Q => (rI0 fun i j => .bl (decide (j ≤ i))) x y H Q ∨ (∃ i j, x = V.str i ∧ y = V.str j ∧ Q (.bl (!decide (i.cps.toList < j.cps.toList))) H)) fGe := od_cmp
end

/-! ### a dict whose keys are tuples -/
def dNewT : TF D := fun _ μ Q => ∀ p, μ p = none → Q (.ptr p) (μ.put p (.dT []))
theorem de_dT {X : Cx} {pos : Pos} : DE X (.Dict [] [] pos) dNewT :=
  weakE pe_dnewT fun σ H Q ⟨ρ, μ, Qd, s, hf, k⟩ p hp => by
    have n : Nx X.K H μ (upd H p (.dT [])) (μ.put p (.dT [])) := Nx.put s.wd (fun _ => hp) ⟨[], rfl, .nil⟩
    exact k _ _ _ _ (hf p (s.wd.free hp)) n (.ptr p)
def tSetdT (td ty tx : TE) : TE := fun σ H Q => td σ H fun x H1 => ∃ a, x = .ref a ∧ IsD H1 a ∧ ty σ H1 fun y H2 => tx σ H2 fun z H3 => ∃ (kvs : List (List Key × V)) (k : List Key) (b : Addr), H3 a = some (.dT kvs) ∧ y = .ref b ∧ H3 b = some (.tup (k.map kV)) ∧ kvs.length < sizeLine ∧
  (∀ v, valV kvs k = some v → Q v H3) ∧ (valV kvs k = none → Q z (upd H3 a (.dT (putK kvs k z))))
theorem setdT_at {X : Cx} {pins : List (Addr × Obj)} {σ : L2.St} {H : Hp} {s : Shared} {a b : Addr} {r : Value} {d : V} {k : List Key} {A : Around} {E : Value → Shared → Prop} {kvs : List (List Key × V)} {Q : Value → Shared → Prop} (hu : A.units + 1 < cLine) (I : Inv X pins σ H s) (e : H a = some (.dT kvs)) (eb : H b = some (.tup (k.map kV))) (rd : RelV d r) (hl : kvs.length < sizeLine)
    (h1 : ∀ v, valV kvs k = some v → ∀ (w' : Value) (s' : Shared), Inv X pins σ H s' → RelV v w' → Q w' s') (h2 : valV kvs k = none → ∀ (w' : Value) (s' : Shared), Inv X pins σ (upd H a (.dT (putK kvs k d))) s' → RelV d w' → Q w' s') :
    wpAny (model X.prog X.w) A (call (.builtin "dict.setdefault") [.ref a, .ref b, r]) Q E s := by
  obtain ⟨z, hd, xs, rel, dd⟩ := dt_of I.hok e
  have hz : xs.length ≤ sizeLine := by rw [← Paired.length rel]; exact z
  have hv := rel.val k
  refine PySem.call_setdefault_heap (hsz := hz) (PySem.tupleKind_room_in1 hu) (key_of I.hok eb) hd dd (fun p hp => ?_) fun hn h' dd' hs => ?_
  · rw [hp] at hv
    cases q0 : valV kvs k with
    | none => rw [q0] at hv; exact False.elim hv
    | some v0 => rw [q0] at hv; exact h1 v0 q0 _ _ (I.tok _) hv
  · rw [hn] at hv
    cases q0 : valV kvs k with
    | some v0 => rw [q0] at hv; exact False.elim hv
    | none =>
      have hl2 : (putK kvs k d).length ≤ sizeLine := Nat.le_trans (length_putK kvs k d) hl
      obtain ⟨q, es, ep, hq, g2, g3, g4, _, g5⟩ := dd'
      refine h2 q0 _ _ (d_write I (by rw [e]; exact True.intro) hs ⟨q, hq⟩ ⟨hl2, hd, _, (rel.put k eb rd).keeps fun c ys ec => ?_, q, es, ep, hq, g2, g3, g4, g5⟩) rd
      rw [upd_ne (ne_of ec e (fun z => nomatch z))]
      exact ec
theorem pe_setdT {X : Cx} {o e f : Expr} {td ty tx : TE} {apos cpos : Pos} (hu : X.A.units + 1 < cLine) (ho : PE X o td) (he : PE X e ty) (hf : PE X f tx) (m : M2 X o "setdefault" apos e f cpos) : PE X (.Call (.Attribute o "setdefault" apos) [e, f] [] cpos) (tSetdT td ty tx) := by
  refine ⟨fun pins s σ H Q I h => ?_⟩
  refine PySem.wpAny_Call_method m.base m.few m.line PySem.F.plainAttrs_dict PySem.F.slot_dict_setdefault PySem.F.type_dict_setdefault (thn (ho.run pins s σ H _ I h) fun u s1 ⟨x, H1, I1, rx, a, ex, d, q1⟩ => ?_)
  subst ex
  cases (show u = Value.ref a from rx)
  obtain ⟨t1, t2, _⟩ := isD_at I1 d
  refine ⟨t1, t2, ?_⟩
  rw [m.trees]
  refine PySem.Calls.callWith_builtin rfl (PySem.Calls.evalArgs_plain (PySem.Calls.spliced_cons (thn (he.run pins s1 σ H1 _ I1 q1) fun iv s2 ⟨y, H2, I2, ry, q2⟩ =>
    PySem.Calls.spliced_cons (thn (hf.run pins s2 σ H2 _ I2 q2) fun fv s3 ⟨z, H3, I3, rz, kvs, k, b, ea, ey, eb, hl, q3, q4⟩ => PySem.Calls.spliced_nil ?_))))
  subst ey
  cases (show iv = Value.ref b from ry)
  exact setdT_at hu I3 ea eb rz hl (fun v hv w' s4 I4 rw' => ⟨v, _, I4, rw', q3 v hv⟩) fun hn w' s4 I4 rw' => ⟨z, _, I4, rw', q4 hn⟩
/-- a key as data -/
def keyD : D → Option Key
  | .int i => some (.inl i)
  | .str s => some (.inr s)
  | _ => none
def keysD : List D → Option (List Key)
  | [] => some []
  | d :: ds => match keyD d, keysD ds with
    | some k, some ks => some (k :: ks)
    | _, _ => none
theorem keys_of {K : PySem.W.Frag} {G : Hp} : ∀ {vs : List V} {ds : List D} {ks : List Key}, RpAll K G vs ds → keysD ds = some ks → vs = ks.map kV
  | _, _, _, .nil, h => by cases h; rfl
  | _, _, ks, .cons (v := v) (d := d) (ds := ds) r t, h => by
    unfold keysD at h
    cases q : keyD d with
    | none => rw [q] at h; cases h
    | some k =>
      cases q2 : keysD ds with
      | none => rw [q, q2] at h; cases h
      | some js =>
        rw [q, q2] at h; cases h
        rw [keys_of t q2, List.map_cons]
        cases r <;> simp only [keyD] at q <;> cases q <;> rfl
def lookD {κ : Type} [DecidableEq κ] (kvs : List (κ × D)) (k : κ) : Option D := (kvs.find? fun kv => decide (kv.1 = k)).map (·.2)
theorem lookD_of {κ : Type} [DecidableEq κ] {K : PySem.W.Frag} {G : Hp} {k : κ} : ∀ {gs : List (κ × V)} {kvs : List (κ × D)}, Paired (fun (p : κ × V) (q : κ × D) => p.1 = q.1 ∧ Rp K G p.2 q.2) gs kvs →
    (∀ d, lookD kvs k = some d → ∃ v, valV gs k = some v ∧ Rp K G v d) ∧ (lookD kvs k = none → valV gs k = none) ∧ gs.length = kvs.length
  | _, _, .nil => ⟨fun d h => by simp [lookD] at h, fun _ => rfl, rfl⟩
  | _, _, .cons (a := p) (b := q) h t => by
    obtain ⟨i1, i2, i3⟩ := lookD_of (k := k) t
    obtain ⟨h1, h2⟩ := h
    by_cases e : q.1 = k
    · refine ⟨fun d hd => ⟨p.2, valV_pos (h1.trans e), ?_⟩, fun hn => ?_, by simp [i3]⟩
      · have : q.2 = d := by simpa [lookD, List.find?_cons, e] using hd
        rw [← this]; exact h2
      · simp [lookD, List.find?_cons, e] at hn
    · have e' : ¬ p.1 = k := fun z => e (h1.symm.trans z)
      refine ⟨fun d hd => ?_, fun hn => ?_, by simp [i3]⟩
      · rw [valV_neg e']
        exact i1 d (by simpa [lookD, List.find?_cons, e] using hd)
      · rw [valV_neg e']
        exact i2 (by simpa [lookD, List.find?_cons, e] using hn)
theorem paired_snoc {α β : Type} {F : α → β → Prop} : ∀ {l : List α} {m : List β} {a : α} {b : β}, Paired F l m → F a b → Paired F (l ++ [a]) (m ++ [b])
  | _, _, _, _, .nil, h => .cons h .nil
  | _, _, _, _, .cons r t, h => .cons r (paired_snoc t h)
/-- d.setdefault(k, x), k a tuple: what stands there, or x laid at the end -/
def dSetdT (Fd Fy Fx : TF D) : TF D := fun ρ μ Q => Fd ρ μ fun x μ1 => ∃ p kvs', x = .ptr p ∧ μ1 p = some (.dT kvs') ∧ Fy ρ μ1 fun y μ2 => Fx ρ μ2 fun z μ3 => ∃ kvs ds ks, μ3 p = some (.dT kvs) ∧ y = .tup ds ∧ keysD ds = some ks ∧ kvs.length < sizeLine ∧
  match lookD kvs ks with
  | some d => Q d μ3
  | none => Q z (μ3.put p (.dT (kvs ++ [(ks, z)])))
theorem de_setd {X : Cx} {k : Nat} (hr : Room k X.A) {o e f : Expr} {apos cpos : Pos} {Fd Fy Fx : TF D} (ho : DE X o Fd) (he : DE X e Fy) (hf : DE X f Fx) (m : M2 X o "setdefault" apos e f cpos := by exact ⟨rfl, rfl, rfl, rfl⟩) :
    DE X (.Call (.Attribute o "setdefault" apos) [e, f] [] cpos) (dSetdT Fd Fy Fx) :=
  weakE (pe_setdT (hu_of hr) ho he hf m) fun σ H Q ⟨ρ, μ, Qd, s, g, kk⟩ => Lift.go (F := Fd) s g fun x μ1 v H1 ⟨p, kvs', ex, hp1, g1⟩ s1 n1 r1 => by
    subst ex
    cases r1
    obtain ⟨gs', e1, _⟩ := s1.wd p _ hp1
    refine ⟨p, rfl, .inr ⟨gs', .inl e1⟩, Lift.go (F := Fy) s1 g1 fun y μ2 vy H2 g2 s2 n2 r2 => Lift.go (F := Fx) s2 g2 fun z μ3 vz H3 ⟨kvs, ds, ks, hp3, ey, hk, hl, g3⟩ s3 n3 r3 => ?_⟩
    subst ey
    obtain ⟨gs, e3, pr⟩ := s3.wd p _ hp3
    have r2' := r2.mono n3.ext
    cases r2' with
    | @tup b xs _ hb ra za =>
      have ek := keys_of ra hk
      subst ek
      obtain ⟨l1, l2, l3⟩ := lookD_of (k := ks) pr
      have nn := (n1.trans n2).trans n3
      refine ⟨gs, ks, b, e3, rfl, hide_in hb, by rw [l3]; exact hl, fun v hv => ?_, fun hv => ?_⟩
      · cases q : lookD kvs ks with
        | none => rw [l2 q] at hv; cases hv
        | some d =>
          rw [q] at g3
          obtain ⟨v', hv', rv⟩ := l1 d q
          rw [hv] at hv'; cases hv'
          exact kk d μ3 v H3 g3 nn rv
      · cases q : lookD kvs ks with
        | some d =>
          obtain ⟨v', hv', rv⟩ := l1 d q
          rw [hv] at hv'; cases hv'
        | none =>
          rw [q] at g3
          have n4 : Nx X.K H3 μ3 (upd H3 p (.dT (putK gs ks vz))) (μ3.put p (.dT (kvs ++ [(ks, z)]))) := Nx.put s3.wd (fun z => by rw [hp3] at z; cases z) ⟨_, rfl, by rw [putK_new _ hv]; exact paired_snoc pr ⟨rfl, r3⟩⟩
          exact kk z _ vz _ g3 (nn.trans n4) (r3.mono n4.ext)

/-! ### max(xs, default=d) of ints -/
def intsD : List D → Option (List Int)
  | [] => some []
  | .int i :: ds => (intsD ds).map (i :: ·)
  | _ :: _ => none
theorem ints_ofD {K : PySem.W.Frag} {G : Hp} : ∀ {vs : List V} {ds : List D} {ns : List Int}, RpAll K G vs ds → intsD ds = some ns → vs = ns.map V.int
  | _, _, _, .nil, h => by cases h; rfl
  | _, _, ns, .cons (ds := ds) r t, h => by
    cases r <;> simp only [intsD] at h <;> try (cases h; done)
    rename_i i
    cases q : intsD ds with
    | none => rw [q] at h; cases h
    | some cs => rw [q] at h; cases h; rw [ints_ofD t q]; rfl
def maxFrom (d : Int) : List Int → Int
  | [] => d
  | n :: ns => ns.foldl max n
def rMaxDf (K : PySem.W.Frag) : List V → List V → Hp → VK → Prop := fun xs zs H Q => ∃ (a : Addr) (ns : List Int) (d : Int), xs = [.ref a] ∧ zs = [.int d] ∧ SqL K H a (ns.map V.int) ∧ Q (.int (maxFrom d ns)) H
theorem reads_ints {h : Heap} : ∀ {us : List Value} {ns : List Int}, PyProof.Rows.IntsAre us ns → ∃ as, ReadsAll h us (ns.map PyData.int) as
  | _, _, .nil => ⟨_, .nil⟩
  | _, _, .cons n t r => let ⟨as, q⟩ := reads_ints r; ⟨_, .cons (.int n t) q⟩
theorem alike_intsD (ns : List Int) : PySem.W.AlikeAll (ns.map PyData.int) := by
  refine ⟨fun x hx y hy => ?_, fun x hx => ?_⟩
  · obtain ⟨i, _, rfl⟩ := List.mem_map.mp hx
    obtain ⟨j, _, rfl⟩ := List.mem_map.mp hy
    rfl
  · obtain ⟨i, _, rfl⟩ := List.mem_map.mp hx
    intro z; cases z
theorem depth_ints : ∀ ns : List Int, PyData.depthAll (ns.map PyData.int) = 0
  | [] => by simp [PyData.depthAll]
  | n :: ns => by simp only [List.map_cons, PyData.depthAll, depth_ints ns, PyData.depth]; rfl
theorem cr_maxDf {X : Cx} {k : Nat} (hr : Room k X.A) (hc : X.calm = true) : CallRK X (.builtin "max") [("default" : Str)] (rMaxDf X.K) := by
  intro pins s σ H xs zs us ws Q I rx rz h
  obtain ⟨a, ns, d, rfl, rfl, hs, q⟩ := h
  obtain ⟨u, rfl, ru⟩ := vals1 rx
  obtain ⟨z, rfl, rv⟩ := vals1 rz
  cases ru
  obtain ⟨its, r, hl, _⟩ := I.list hs
  have hi := r.ints
  obtain ⟨as, rd⟩ := reads_ints (h := s.heap) hi
  have hu := hr.units
  show wpAny (model X.prog X.w) X.A (call (.builtin "max") [.ref a] [(Str.ofString "default", z)]) (EP X pins σ Q) X.xe s
  refine PySem.W.max_list_default (I.ok.hd hc) hl.isList (vs := its.toArray) (xs := ns.map PyData.int) (as := as) rd (alike_intsD ns) (by rw [depth_ints]; omega) (fun e h' tk hk => ?_) fun y ys i v h' tk bs e hv hr' hk => ?_
  · have : ns = [] := List.map_eq_nil_iff.mp e
    subst this
    exact ⟨.int d, H, I.kept hk, rv, q⟩
  · cases ns with
    | nil => cases e
    | cons n ns =>
      rw [List.map_cons] at e
      injection e with e1 e2
      subst e1; subst e2
      rw [PySem.W.maxD_ints] at hr'
      obtain ⟨t, rfl⟩ : ∃ t, v = Value.int (ns.foldl max n) t := by
        cases hr'
        exact ⟨_, rfl⟩
      exact ⟨.int _, H, I.kept hk, ⟨t, rfl⟩, q⟩
def dMaxD (F Fd : TF D) : TF D := fun ρ μ Q => F ρ μ fun x μ1 => Fd ρ μ1 fun y μ2 => ∃ ds ns d, x = .lst ds ∧ intsD ds = some ns ∧ y = .int d ∧ Q (.int (maxFrom d ns)) μ2
theorem de_maxD {X : Cx} {k : Nat} (hr : Room k X.A) {e f : Expr} {F Fd : TF D} {p pos kpos : Pos} (hx : X.mg "max" = none) (he : DE X e F) (hf : DE X f Fd) (hg : Gl X "max" := by rfl)
    (hs : starEach [e] X.env = (false, eval e X.env) :: starEach [] X.env := by rfl)
    (h1 : backTo pos (starEach [e] X.env) = (false, eval e X.env) :: backTo pos (starEach [] X.env) := by rfl) (h2 : (backTo pos (starEach [e] X.env)).any (·.1) = false := by rfl)
    (h3 : (backToKw pos (keywordEach [⟨some "default", f, kpos⟩] X.env)).all (·.1.isSome) = true := by rfl) (h4 : (backToKw pos (keywordEach [⟨some "default", f, kpos⟩] X.env)).any (·.1.isNone) = false := by rfl) (h5 : (backToKw pos (keywordEach [⟨some "default", f, kpos⟩] X.env)).filterMap (·.1) = [("default" : Str)] := by rfl) (hc : X.calm = true := by rfl) :
    DE X (.Call (.Name "max" p) [e] [⟨some "default", f, kpos⟩] pos) (dMaxD F Fd) :=
  weakE (pe_callBK (cr_maxDf hr hc) hg hx (by decide +kernel) (pa_cons he pa_nil hs) (pk_cons hf pk_nil) (by decide) (by decide) h1 h2 h3 h4 h5) fun σ H Q ⟨ρ, μ, Qd, s, g, kk⟩ => Lift.go (F := F) s g fun x μ1 v H1 g1 s1 n1 r1 => Lift.go (F := Fd) s1 g1 fun y μ2 u H2 ⟨ds, ns, d, ex, hn, ey, g2⟩ s2 n2 r2 => by
    subst ex; subst ey
    cases r2
    have r1' := r1.mono n2.ext
    cases r1' with
    | lst ha ra za => exact ⟨_, ns, d, rfl, rfl, by rw [← ints_ofD ra hn]; exact SqL.of (hide_in ha), kk _ μ2 _ H2 g2 (n1.trans n2) (.int _)⟩
end DL
end

-- part DL6
section
namespace DL
open PySem L2
/-! ### comprehensions with two fors -/
def lcStep (p : Addr) (J : Nat → Mu → Prop) (j : Nat) (r : Option D) (μ : Mu) : Prop := match r with
  | some y => ∃ acc, μ p = some (.lst acc) ∧ acc.length < sizeLine ∧ J (j + 1) (μ.put p (.lst (acc ++ [y])))
  | none => J (j + 1) μ
def dLc2 (F : TF (List D)) (g : TGD) (A : TF Bool) (F2 : TF (List D)) (g2 : TGD) (A2 : TF Bool) (Fe : TF D) (vs vs1 : List Nat) : TF D := fun ρ μ Q => F ρ μ fun ds μ1 => ∀ p, μ1 p = none → ∃ I : Nat → Mu → Prop, I 0 (μ1.put p (.lst [])) ∧
  (∀ i d μ', ds[i]? = some d → I i μ' → g d (wipeE ρ vs) fun ρ2 => A ρ2 μ' fun b μ2 => if b = true then F2 ρ2 μ2 fun es μ3 => ∃ J : Nat → Mu → Prop, J 0 μ3 ∧
    (∀ j e μ4, es[j]? = some e → J j μ4 → lcTurn g2 A2 Fe (wipeE ρ2 vs1) e μ4 (lcStep p J j)) ∧ ∀ μ4, J es.length μ4 → I (i + 1) μ4 else I (i + 1) μ2) ∧
  ∀ μ', I ds.length μ' → ∃ acc, μ' p = some (.lst acc) ∧ Q (.lst acc) (μ'.del p)
theorem lc2_go {K : PySem.W.Frag} {F F2 : TF (List D)} {slots slots2 vs vs1 : List Nat} {g g2 : TGD} {A A2 : TF Bool} {Fe : TF D} (hs : ∀ j ∈ slots, j ∈ vs) (hs2 : ∀ j ∈ slots2, j ∈ vs1) {σ : L2.St} {H : Hp} {Q : VK} (h : tD K (dLc2 F g A F2 g2 A2 Fe vs vs1) σ H Q) :
    tLc2 (tTI K F) (gD K slots g) (tDT K A) (tTI K F2) (gD K slots2 g2) (tDT K A2) (tD K Fe) vs vs1 σ H Q := by
  obtain ⟨ρ, μ, Qd, s, f, k⟩ := h
  refine ⟨ρ, μ, _, s, f, fun ds μ1 J0 H1 gg n1 y p hp => ?_⟩
  have hm := n1.wd.free hp
  obtain ⟨I, i0, step, fin⟩ := gg p hm
  have n0 : Nx K H1 μ1 (upd H1 p (.lst [])) (μ1.put p (.lst [])) := Nx.put n1.wd (fun _ => hp) ⟨[], rfl, .nil, by show 0 ≤ sizeLine; decide⟩
  refine ⟨fun i m H' => m = ds.length - i ∧ i ≤ ds.length ∧ ∃ μ', I i μ' ∧ Nx K H1 μ1 H' μ', ⟨_, rfl, Nat.zero_le _, _, i0, n0⟩, ?_⟩
  rintro i m H' ⟨rfl, hi, μ', hI, n'⟩
  obtain ⟨y1, y2⟩ := y.2 H' μ' n' i
  by_cases hlt : i < ds.length
  · obtain ⟨go, yl⟩ := y2 ds[i] (by simp [hlt])
    refine .inr ⟨go, fun H2 => ∃ μ2, I (i + 1) μ2 ∧ Nx K H1 μ1 H2 μ2, fun H2 ⟨μ2, a, b⟩ => ⟨_, by omega, rfl, hlt, μ2, a, b⟩, fun x H2 hx => ?_⟩
    obtain ⟨n2, r2⟩ := yl x H2 hx
    have s2 : StOk K H2 μ' (wipe σ vs) (wipeE ρ vs) := by
      have q := (s.next n1).next (n'.trans n2)
      exact ⟨renv_wipe q.env vs, q.wd⟩
    refine ⟨wipeE ρ vs, μ', ds[i], _, s2, r2, step i ds[i] μ' (by simp [hlt]) hI, fun ρ3 σ3 hb s3 hl hj => ⟨wipe_same hl hj hs, ?_⟩⟩
    refine Lift.go (F := A) (R := RB) s3 hb fun b μ4 v H4 g4 s4 n4 e4 => ?_
    cases (show v = b from e4)
    have nn := (n'.trans n2).trans n4
    cases b with
    | false =>
      rw [if_neg Bool.false_ne_true]
      exact ⟨μ4, g4, nn⟩
    | true =>
      rw [if_pos rfl]
      refine ⟨ρ3, μ4, _, s4, g4, fun es μ5 J1 H5 ⟨J, j0, jstep, jfin⟩ n5 z => ?_⟩
      have nn5 := nn.trans n5
      refine ⟨fun j m H6 => m = es.length - j ∧ j ≤ es.length ∧ ∃ μ6, J j μ6 ∧ Nx K H5 μ5 H6 μ6, ⟨_, rfl, Nat.zero_le _, _, j0, Nx.refl n5.wd⟩, ?_⟩
      rintro j m H6 ⟨rfl, hj6, μ6, hJ, n6⟩
      obtain ⟨z1, z2⟩ := z.2 H6 μ6 n6 j
      by_cases hlt2 : j < es.length
      · obtain ⟨go2, yl2⟩ := z2 es[j] (by simp [hlt2])
        refine .inr ⟨go2, fun H7 => ∃ μ7, J (j + 1) μ7 ∧ Nx K H5 μ5 H7 μ7, fun H7 ⟨μ7, a, b⟩ => ⟨_, by omega, rfl, hlt2, μ7, a, b⟩, fun x2 H7 hx2 => ?_⟩
        obtain ⟨n7, r7⟩ := yl2 x2 H7 hx2
        have s7 : StOk K H7 μ6 (wipe σ3 vs1) (wipeE ρ3 vs1) := by
          have q := ((s4.next n5).next n6).next n7
          exact ⟨renv_wipe q.env vs1, q.wd⟩
        refine ⟨wipeE ρ3 vs1, μ6, es[j], _, s7, r7, jstep j es[j] μ6 (by simp [hlt2]) hJ, fun ρ8 σ8 hb8 s8 hl8 hj8 => ⟨wipe_same hl8 hj8 hs2, ?_⟩⟩
        refine Lift.go (F := A2) (R := RB) s8 hb8 fun b8 μ9 v9 H9 g9 s9 n9 e9 => ?_
        cases (show v9 = b8 from e9)
        have n79 := (n6.trans n7).trans n9
        cases b8 with
        | false =>
          rw [if_neg Bool.false_ne_true]
          exact ⟨μ9, g9, n79⟩
        | true =>
          rw [if_pos rfl]
          refine Lift.go (F := Fe) s9 g9 fun yd μa yv Ha ⟨acc, ha, hla, hJa⟩ sa na ra => ?_
          obtain ⟨xs, ea, rx, za⟩ := sa.wd p _ ha
          exact ⟨xs, ea, by rw [rx.length]; exact hla, _, hJa, (n79.trans na).trans (Nx.put sa.wd (fun z => by rw [ha] at z; cases z) ⟨_, rfl, rx.append (.cons ra .nil), by rw [List.length_append, List.length_singleton]; omega⟩)⟩
      · have e : j = es.length := by omega
        subst e
        exact .inl ⟨z1 (Nat.le_refl _), μ6, jfin μ6 hJ, nn5.trans n6⟩
  · have e : i = ds.length := by omega
    subst e
    refine .inl ⟨y1 (Nat.le_refl _), ?_⟩
    obtain ⟨acc, ha, q⟩ := fin μ' hI
    obtain ⟨n6, r6⟩ := Nx.frz n'.wd ha
    exact k _ _ _ H' q ((n1.trans n').trans n6) r6
section
variable {X : Cx} {elt tg iter tg1 iter1 : Expr} {ifs ifs1 : List Expr} {scope : Scope} {own : List (Str × Nat)} {pos : Pos} {F F2 : TF (List D)} {slots slots2 : List Nat} {g g2 : TGD} {A A2 : TF Bool} {Fe : TF D}
theorem de_lc2 (own : List (Str × Nat)) (vs1 : List Nat) (hc : X.calm = true) (hN : X.N.Nodup) (hi : DI X tg iter F) (ok : BlkOk X.N X.env.scope scope own)
    (hg : ∀ (s : Shared) (H : Hp) (C : Addr) (cl : List (Str × Addr)) (fp : List Addr), DG (X.blk s H scope (compEnvC scope cl C X.env) fp) tg slots g) (ht : ∀ (s : Shared) (H : Hp) (C : Addr) (cl : List (Str × Addr)) (fp : List Addr), DTs (X.blk s H scope (compEnvC scope cl C X.env) fp) ifs A)
    (hi1 : ∀ (s : Shared) (H : Hp) (C : Addr) (cl : List (Str × Addr)) (fp : List Addr), DI (X.blk s H scope (compEnvC scope cl C X.env) fp) tg1 iter1 F2)
    (hg1 : ∀ (s : Shared) (H : Hp) (C : Addr) (cl : List (Str × Addr)) (fp : List Addr), DG (X.blk s H scope (compEnvC scope cl C X.env) fp) tg1 slots2 g2) (ht1 : ∀ (s : Shared) (H : Hp) (C : Addr) (cl : List (Str × Addr)) (fp : List Addr), DTs (X.blk s H scope (compEnvC scope cl C X.env) fp) ifs1 A2)
    (he : ∀ (s : Shared) (H : Hp) (C : Addr) (cl : List (Str × Addr)) (fp : List Addr), DE (X.blk s H scope (compEnvC scope cl C X.env) fp) elt Fe)
    (hv : ∀ i ∈ vs1, i ∈ own.map (·.2) := by decide) (hsl : ∀ j ∈ slots, j ∈ own.map (·.2) := by decide) (hsl2 : ∀ j ∈ slots2, j ∈ vs1 := by decide) (hs : ∀ x, foldedSetIterable iter X.env x = pure x := by intro _; rfl) (hs1 : ∀ env x, foldedSetIterable iter1 env x = pure x := by intro _ _; rfl) :
    DE X (.ListComp elt [⟨tg, iter, ifs, 0⟩, ⟨tg1, iter1, ifs1, 0⟩] scope pos) (dLc2 F g A F2 g2 A2 Fe (own.map (·.2)) vs1) := weakE (pe_lc2 hc hN hi ok hv hg ht hi1 hg1 ht1 he hs hs1) fun σ H Q h => lc2_go hsl hsl2 h
end

/-! ### wishes met: plain evaluation -/
/-- F hands back one of S, and leaves the objects as they are -/
def EvS {β : Type} (F : TF β) (ρ : Env) (μ : Mu) (S : β → Prop) : Prop := ∀ Q : β → Mu → Prop, (∀ d, S d → Q d μ) → F ρ μ Q
/-- one turn that hands back r with S d r, where the new list stands anywhere -/
def TurnS (g : TGD) (A : TF Bool) (Fe : TF D) (ρw : Env) (μ : Mu) (S : D → Option D → Prop) (d : D) : Prop := ∀ (p : Addr) (acc : List D), μ p = none → ∀ N : Option D → Mu → Prop, (∀ r, S d r → N r (μ.put p (.lst acc))) → lcTurn g A Fe ρw d (μ.put p (.lst acc)) N
inductive All2 {α β : Type} (R : α → β → Prop) : List α → List β → Prop
  | nil : All2 R [] []
  | cons {a b l m} : R a b → All2 R l m → All2 R (a :: l) (b :: m)
theorem All2.snoc {α β : Type} {R : α → β → Prop} : ∀ {l : List α} {m : List β} {a : α} {b : β}, All2 R l m → R a b → All2 R (l ++ [a]) (m ++ [b])
  | _, _, _, _, .nil, h => .cons h .nil
  | _, _, _, _, .cons r t, h => .cons r (All2.snoc t h)
theorem All2.len {α β : Type} {R : α → β → Prop} : ∀ {l : List α} {m : List β}, All2 R l m → l.length = m.length
  | _, _, .nil => rfl
  | _, _, .cons _ t => by simp [All2.len t]
/-- a comprehension by its turns -/
theorem lc_by {F : TF (List D)} {g : TGD} {A : TF Bool} {Fe : TF D} {vs : List Nat} {ρ : Env} {μ : Mu} {Q : D → Mu → Prop} {ds : List D} (S : D → Option D → Prop) (hF : ∀ R : List D → Mu → Prop, R ds μ → F ρ μ R)
    (ht : ∀ d ∈ ds, TurnS g A Fe (wipeE ρ vs) μ S d) (hQ : ∀ rs, All2 S ds rs → Q (.lst (rs.filterMap id)) μ) : dLc F g A Fe vs ρ μ Q := by
  refine hF _ (fun p hp => ⟨fun i μ' => ∃ rs, All2 S (ds.take i) rs ∧ (rs.filterMap id).length ≤ i ∧ μ' = μ.put p (.lst (rs.filterMap id)), ⟨[], by simpa using All2.nil, by simp, rfl⟩, fun i d μ' hd ⟨rs, h1, h2, h3⟩ => ?_, fun μ' ⟨rs, h1, h2, h3⟩ => ?_⟩)
  · subst h3
    refine ht d (List.mem_of_getElem? hd) p _ hp _ fun r hr => ?_
    have e : ds.take (i + 1) = ds.take i ++ [d] := by rw [List.take_add_one, hd]; rfl
    cases r with
    | none => exact ⟨rs ++ [none], by rw [e]; exact h1.snoc hr, by simp [List.filterMap_append]; omega, by simp [List.filterMap_append]⟩
    | some y => exact ⟨_, Mu.put_same, h2, rs ++ [some y], by rw [e]; exact h1.snoc hr, by simp [List.filterMap_append]; omega, by rw [Mu.put_put]; simp [List.filterMap_append]⟩
  · subst h3
    refine ⟨_, Mu.put_same, ?_⟩
    rw [Mu.put_del hp]
    exact hQ rs (by rw [List.take_length] at h1; exact h1)
theorem all2_fun {α β : Type} {f : α → β} : ∀ {l : List α} {m : List β}, All2 (fun a b => b = f a) l m → m = l.map f
  | _, _, .nil => rfl
  | _, _, .cons r t => by rw [List.map_cons, r, all2_fun t]
/-- each turn gives h of the item -/
theorem lc_map {F : TF (List D)} {g : TGD} {A : TF Bool} {Fe : TF D} {vs : List Nat} {ρ : Env} {μ : Mu} {Q : D → Mu → Prop} {ds : List D} (h : D → D) (hF : ∀ R : List D → Mu → Prop, R ds μ → F ρ μ R)
    (ht : ∀ d ∈ ds, TurnS g A Fe (wipeE ρ vs) μ (fun d r => r = some (h d)) d) (hQ : Q (.lst (ds.map h)) μ) : dLc F g A Fe vs ρ μ Q :=
  lc_by (fun d r => r = some (h d)) hF ht fun rs hr => by
    rw [all2_fun hr, List.filterMap_map]
    have : (id ∘ fun d => some (h d)) = fun d => some (h d) := rfl
    rw [this, List.filterMap_eq_map']
    exact hQ
/-- each turn gives h of the item where f says so -/
theorem lc_fmap {F : TF (List D)} {g : TGD} {A : TF Bool} {Fe : TF D} {vs : List Nat} {ρ : Env} {μ : Mu} {Q : D → Mu → Prop} {ds : List D} (h : D → Option D) (hF : ∀ R : List D → Mu → Prop, R ds μ → F ρ μ R)
    (ht : ∀ d ∈ ds, TurnS g A Fe (wipeE ρ vs) μ (fun d r => r = h d) d) (hQ : Q (.lst (ds.filterMap h)) μ) : dLc F g A Fe vs ρ μ Q :=
  lc_by (fun d r => r = h d) hF ht fun rs hr => by
    rw [all2_fun hr, List.filterMap_map]
    exact hQ
/-- a loop by its turns, the invariant upon the part taken -/
theorem for_by {F : TF (List D)} {g : TGD} {body : TSD} {E : EndsD} {ρ : Env} {μ : Mu} {ds : List D} (I : List D → Env → Mu → Prop) (hF : ∀ R : List D → Mu → Prop, R ds μ → F ρ μ R) (h0 : I [] ρ μ)
    (ht : ∀ (pre : List D) (d : D) (post : List D) ρ' μ', ds = pre ++ d :: post → I pre ρ' μ' → g d ρ' fun ρ2 => body { E with nx := I (pre ++ [d]), ct := I (pre ++ [d]), bk := E.nx } ρ2 μ') (hd : ∀ ρ' μ', I ds ρ' μ' → E.nx ρ' μ') : sFor F g body E ρ μ := by
  refine hF _ ⟨fun i ρ' μ' => I (ds.take i) ρ' μ', by simpa using h0, fun i d ρ' μ' hi hI => ?_, fun ρ' μ' hI => hd ρ' μ' (by have h : I (ds.take ds.length) ρ' μ' := hI; rw [List.take_length] at h; exact h)⟩
  have e : ds.take (i + 1) = ds.take i ++ [d] := by rw [List.take_add_one, hi]; rfl
  have hl := (List.getElem?_eq_some_iff.mp hi).1
  have e2 : ds = ds.take i ++ d :: ds.drop (i + 1) := by
    have h1 := (List.getElem?_eq_some_iff.mp hi).2
    have := List.take_append_drop i ds
    rw [List.drop_eq_getElem_cons hl, h1] at this
    exact this.symm
  show g d ρ' fun ρ2 => body { E with nx := I (ds.take (i + 1)), ct := I (ds.take (i + 1)), bk := E.nx } ρ2 μ'
  rw [e]
  exact ht (ds.take i) d (ds.drop (i + 1)) ρ' μ' e2 hI
end DL
end

-- part DL7
section
namespace DL
open PySem L2
/-! ### places of written lists -/
section
variable {α : Type} {a b c d e : α} {l : List α}
theorem at0 : atI (a :: l) 0 = some a := by
  unfold atI ixN
  rw [if_pos (by omega), if_pos (by simp only [List.length_cons]; omega)]
  rfl
theorem at1 : atI (a :: b :: l) 1 = some b := by
  unfold atI ixN
  rw [if_pos (by omega), if_pos (by simp only [List.length_cons]; omega)]
  rfl
theorem at2 : atI (a :: b :: c :: l) 2 = some c := by
  unfold atI ixN
  rw [if_pos (by omega), if_pos (by simp only [List.length_cons]; omega)]
  rfl
theorem at3 : atI (a :: b :: c :: d :: l) 3 = some d := by
  unfold atI ixN
  rw [if_pos (by omega), if_pos (by simp only [List.length_cons]; omega)]
  rfl
theorem at4 : atI (a :: b :: c :: d :: e :: l) 4 = some e := by
  unfold atI ixN
  rw [if_pos (by omega), if_pos (by simp only [List.length_cons]; omega)]
  rfl
theorem atI_map {β : Type} (f : α → β) (l : List α) (i : Int) : atI (l.map f) i = (atI l i).map f := by
  unfold atI
  rw [List.length_map]
  cases ixN l.length i with
  | none => rfl
  | some j => simp
theorem atI_in {l : List α} {i : Int} (h0 : 0 ≤ i) (h1 : i < l.length) : ∃ x, atI l i = some x ∧ l[i.toNat]? = some x := by
  have hj : i.toNat < l.length := by omega
  have hx : l[i.toNat]? = some l[i.toNat] := by simp [hj]
  refine ⟨_, ?_, hx⟩
  have h := atI_nat hx
  rw [show ((i.toNat : Nat) : Int) = i by omega] at h
  exact h
theorem atI_back {l : List α} {x : α} : atI (l ++ [x]) (-1) = some x := atI_last l x
end
theorem sz_small {n : Nat} (h : n ≤ 10000) : n ≤ sizeLine := Nat.le_trans h (by decide)
theorem sz_small' {n : Nat} (h : n < 10000) : n < sizeLine := Nat.lt_of_lt_of_le h (by decide)
theorem plains_map {α : Type} {n : Nat} {f : α → D} (l : List α) (h : ∀ a ∈ l, plain n (f a) = true) : plains n (l.map f) = true := by
  induction l with
  | nil => rfl
  | cons a l ih =>
    simp only [List.map_cons, plains, Bool.and_eq_true]
    exact ⟨h a (by simp), ih fun b hb => h b (by simp [hb])⟩
theorem plain_mono : ∀ {n m : Nat} {d : D}, n ≤ m → plain n d = true → plain m d = true
  | n, m, .non, _, _ => by cases m <;> rfl
  | n, m, .bl _, _, _ => by cases m <;> rfl
  | n, m, .int _, _, _ => by cases m <;> rfl
  | n, m, .str _, _, _ => by cases m <;> rfl
  | n, m, .ptr _, _, p => by cases n <;> simp [plain] at p
  | n, m, .scr _, _, p => by cases n <;> simp [plain] at p
  | n, m, .ty _, _, p => by cases n <;> simp [plain] at p
  | n, m, .tup ds, h, p => by
    cases n with
    | zero => simp [plain] at p
    | succ n =>
      cases m with
      | zero => omega
      | succ m =>
        simp only [plain] at p ⊢
        exact go ds (by omega) p
  | n, m, .lst ds, h, p => by
    cases n with
    | zero => simp [plain] at p
    | succ n =>
      cases m with
      | zero => omega
      | succ m =>
        simp only [plain] at p ⊢
        exact go ds (by omega) p
where
  go : ∀ {n m : Nat} (ds : List D), n ≤ m → plains n ds = true → plains m ds = true
  | _, _, [], _, _ => by simp [plains]
  | n, m, d :: ds, h, p => by
    simp only [plains, Bool.and_eq_true] at p ⊢
    exact ⟨plain_mono h p.1, go ds h p.2⟩
theorem eqvDs_map {α : Type} {f : α → D} (he : ∀ a b, eqvD (f a) (f b) = true ↔ a = b) : ∀ l m : List α, eqvDs (l.map f) (m.map f) = true ↔ l = m
  | [], [] => by simp [eqvDs]
  | [], b :: m => by simp [eqvDs]
  | a :: l, [] => by simp [eqvDs]
  | a :: l, b :: m => by
    simp only [List.map_cons, eqvDs, Bool.and_eq_true, he, eqvDs_map he l m, List.cons.injEq]
theorem eqvDs_dec {α : Type} [DecidableEq α] {f : α → D} (he : ∀ a b, eqvD (f a) (f b) = true ↔ a = b) (l m : List α) : eqvDs (l.map f) (m.map f) = decide (l = m) := by
  rw [Bool.eq_iff_iff, eqvDs_map he, decide_eq_true_eq]
theorem eqv_str (a b : Str) : eqvD (.str a) (.str b) = true ↔ a = b := by simp [eqvD]
theorem eqv_int (a b : Int) : eqvD (.int a) (.int b) = true ↔ a = b := by simp [eqvD]
theorem any_str (ks : List Str) (k : Str) : ((ks.map D.str).any fun e => eqvD e (.str k)) = decide (k ∈ ks) := by
  rw [Bool.eq_iff_iff, List.any_eq_true, decide_eq_true_eq]
  constructor
  · rintro ⟨e, he, h⟩
    obtain ⟨j, hj, rfl⟩ := List.mem_map.mp he
    have := (eqv_str j k).mp h
    rw [← this]; exact hj
  · intro h
    exact ⟨.str k, List.mem_map.mpr ⟨k, h, rfl⟩, (eqv_str k k).mpr rfl⟩
theorem flat_strs (ks : List Str) : (ks.map D.str).all flatD = true := by
  rw [List.all_eq_true]
  intro x hx
  obtain ⟨j, hj, rfl⟩ := List.mem_map.mp hx
  rfl
theorem bls_map {α : Type} (f : α → Bool) : ∀ l : List α, bls (l.map fun a => D.bl (f a)) = some (l.map f)
  | [] => rfl
  | a :: l => by rw [List.map_cons, bls, bls_map f l]; rfl
theorem ints_map {α : Type} (f : α → Int) : ∀ l : List α, intsD (l.map fun a => D.int (f a)) = some (l.map f)
  | [] => rfl
  | a :: l => by rw [List.map_cons, intsD, ints_map f l]; rfl
theorem set_none {α : Type} {l : List α} {i : Nat} {x : α} : (l.set i x)[i]? = if i < l.length then some x else none := by
  by_cases h : i < l.length
  · rw [List.getElem?_set_self h, if_pos h]
  · rw [List.getElem?_eq_none (by simpa using h), if_neg h]

/-! ### what the wishes say of known data -/
section
variable {μ : Mu} {P : D → Prop} {i j : Int} {b : Bool} {x y : D} {ds es : List D} {s t : Str} {p : Addr} {lo hi : Option Int}
theorem ix_l : fIx μ (.lst ds) (.int i) P = ∃ d, atI ds i = some d ∧ P d := rfl
theorem ix_t : fIx μ (.tup ds) (.int i) P = ∃ d, atI ds i = some d ∧ P d := rfl
theorem ix_s : fIx μ (.str s) (.int i) P = ∃ c, atI s.cps.toList i = some c ∧ P (.str ⟨#[c]⟩) := rfl
theorem ix_p : fIx μ (.ptr p) (.int i) P = ∃ ds d, μ p = some (.lst ds) ∧ atI ds i = some d ∧ P d := rfl
theorem add_i : fAdd μ (.int i) (.int j) P = P (.int (i + j)) := rfl
theorem add_s : fAdd μ (.str s) (.str t) P = (s.length + t.length ≤ sizeLine ∧ P (.str (s ++ t))) := rfl
theorem add_l : fAdd μ (.lst ds) (.lst es) P = (ds.length + es.length ≤ sizeLine ∧ P (.lst (ds ++ es))) := rfl
theorem add_t : fAdd μ (.tup ds) (.tup es) P = (ds.length + es.length ≤ sizeLine ∧ P (.tup (ds ++ es))) := rfl
theorem mul_i : fMul μ (.int i) (.int j) P = (CMul i j ∧ P (.int (i * j))) := rfl
theorem mul_b : fMul μ (.int i) (.bl b) P = P (.int (i * b2I b)) := rfl
theorem sub_i : fSub μ (.int i) (.int j) P = P (.int (i - j)) := by simp [fSub, fII]
theorem fdiv_i : fFdiv μ (.int i) (.int j) P = (CDiv i j ∧ P (.int (i / j))) := rfl
theorem mod_i : fMod μ (.int i) (.int j) P = (0 < j ∧ P (.int (i % j))) := rfl
theorem pow_i : fPow μ (.int i) (.int j) P = (CPow i j ∧ P (.int (i ^ j.toNat))) := rfl
theorem shl_i : fShl μ (.int i) (.int j) P = (CPow i j ∧ P (.int (i * 2 ^ j.toNat))) := rfl
theorem shr_i : fShr μ (.int i) (.int j) P = (0 ≤ j ∧ P (.int (i / 2 ^ j.toNat))) := rfl
theorem and_i : fAnd μ (.int i) (.int j) P = P (.int (Builtin.bitAnd i j)) := by simp [fAnd, fII]
theorem lt_i : fLt μ (.int i) (.int j) P = P (.bl (decide (i < j))) := rfl
theorem le_i : fLe μ (.int i) (.int j) P = P (.bl (decide (i ≤ j))) := rfl
theorem gt_i : fGt μ (.int i) (.int j) P = P (.bl (decide (j < i))) := rfl
theorem ge_i : fGe μ (.int i) (.int j) P = P (.bl (decide (j ≤ i))) := rfl
theorem le_s : fLe μ (.str s) (.str t) P = P (.bl (!decide (t.cps.toList < s.cps.toList))) := rfl
theorem in_t {neg : Bool} : fIn neg μ (.str s) (.tup ds) P = (ds.all flatD = true ∧ P (.bl (neg ^^ ds.any fun e => eqvD e (.str s)))) := by simp [fIn, flatD]
theorem in_l {neg : Bool} : fIn neg μ (.str s) (.lst ds) P = (ds.all flatD = true ∧ P (.bl (neg ^^ ds.any fun e => eqvD e (.str s)))) := by simp [fIn, flatD]
theorem in_s {neg : Bool} : fIn neg μ (.str s) (.str t) P = P (.bl (neg ^^ (!(Builtin.Str.occurrences t s 0 t.length 1).isEmpty))) := rfl
theorem len_l : fLen μ [.lst ds] P = P (.int ds.length) := rfl
theorem len_t : fLen μ [.tup ds] P = P (.int ds.length) := rfl
theorem len_s : fLen μ [.str s] P = P (.int s.length) := rfl
theorem len_p : fLen μ [.ptr p] P = ∃ a, μ p = some (.lst a) ∧ P (.int a.length) := rfl
theorem list_l : fList μ [.lst ds] P = P (.lst ds) := rfl
theorem list_t : fList μ [.tup ds] P = P (.lst ds) := rfl
theorem list_s {ns : List Int} : fList μ [.scr ns] P = (ns.length ≤ sizeLine ∧ P (.lst (ns.map D.int))) := rfl
theorem list_p : fList μ [.ptr p] P = ∃ a, μ p = some (.lst a) ∧ P (.lst a) := rfl
theorem tuple_l : fTuple μ [.lst ds] P = P (.tup ds) := rfl
theorem tuple_t : fTuple μ [.tup ds] P = P (.tup ds) := rfl
theorem int_i : fInt μ [.int i] P = P (.int i) := rfl
theorem int_b : fInt μ [.bl b] P = P (.int (if b then 1 else 0)) := rfl
theorem abs_i : fAbs μ [.int i] P = P (.int (absI i)) := rfl
theorem max_i : fMax2 μ [.int i, .int j] P = P (.int (maxI i j)) := rfl
theorem min_i : fMin2 μ [.int i, .int j] P = P (.int (minI i j)) := rfl
theorem all_l : fAll μ [.lst ds] P = ∃ bs, bls ds = some bs ∧ P (.bl (bs.all id)) := rfl
theorem any_l : fAny μ [.lst ds] P = ∃ bs, bls ds = some bs ∧ P (.bl (bs.any id)) := rfl
theorem isi_1 {n : String} : fIsi μ [x, .ty n] P = ∃ t, tyD x = some t ∧ okTy n = true ∧ P (.bl (isA t n)) := rfl
theorem isi_n {ts : List D} : fIsi μ [x, .tup ts] P = ∃ t ns, tyD x = some t ∧ inTys ts = some ns ∧ ns.all okTy = true ∧ P (.bl (ns.any (isA t))) := rfl
theorem sl_l : fSl (.lst ds) lo hi P = P (.lst (cutD ds lo hi)) := rfl
theorem sl_t : fSl (.tup ds) lo hi P = P (.tup (cutD ds lo hi)) := rfl
theorem sl_s : fSl (.str s) lo hi P = P (.str (cutS s lo hi)) := rfl
theorem neg_i : fNeg (.int i) P = P (.int (-i)) := rfl
theorem isN_i : fIsN μ x y P = (y = .non ∧ P (.bl (isN x))) := rfl
theorem notN_i : fNotN μ x y P = (y = .non ∧ P (.bl (!isN x))) := rfl
theorem eq_x : fEq μ x y P = (plain 16 x = true ∧ plain 16 y = true ∧ P (.bl (eqvD x y))) := rfl
theorem ne_x : fNe μ x y P = (plain 16 x = true ∧ plain 16 y = true ∧ P (.bl (!eqvD x y))) := rfl
end
section
variable {μ : Mu} {ρ : Env} {Q : List D → Mu → Prop} {ds : List D} {F : TF D} {i j : Int}
theorem seq_l (hF : ∀ R : D → Mu → Prop, R (.lst ds) μ → F ρ μ R) : ∀ R : List D → Mu → Prop, R ds μ → iSeq F ρ μ R := fun R h => hF _ h
theorem seq_t (hF : ∀ R : D → Mu → Prop, R (.tup ds) μ → F ρ μ R) : ∀ R : List D → Mu → Prop, R ds μ → iSeq F ρ μ R := fun R h => hF _ h
theorem rg1 {A : TF (List D)} (hi : smI i) (hF : ∀ R : List D → Mu → Prop, R [.int i] μ → A ρ μ R) : ∀ R : List D → Mu → Prop, R (rngD 0 i.toNat) μ → iRg1 A ρ μ R := fun R h => hF _ ⟨hi, h⟩
theorem rg2 {A : TF (List D)} (hi : smI i) (hj : smI j) (hF : ∀ R : List D → Mu → Prop, R [.int i, .int j] μ → A ρ μ R) : ∀ R : List D → Mu → Prop, R (rngD i (j - i).toNat) μ → iRg2 A ρ μ R := fun R h => hF _ ⟨hi, hj, h⟩
end
theorem z0 : (0 ≤ sizeLine) = True := eq_true (by decide)
theorem z1 : (1 ≤ sizeLine) = True := eq_true (by decide)
theorem z2 : (2 ≤ sizeLine) = True := eq_true (by decide)
theorem z3 : (3 ≤ sizeLine) = True := eq_true (by decide)
theorem z4 : (4 ≤ sizeLine) = True := eq_true (by decide)
theorem z5 : (5 ≤ sizeLine) = True := eq_true (by decide)
theorem z6 : (6 ≤ sizeLine) = True := eq_true (by decide)
theorem z12 : (12 ≤ sizeLine) = True := eq_true (by decide)
end DL
end

-- part DLS
section
/-! sorted(set(texts)): the set as a payload of texts, its walk, its order. -/
namespace DL
open PySem L2
def SortedS (ys : List Str) : Prop := ys.Pairwise fun a b => a.cps.toList < b.cps.toList
end DL
namespace TS
open PySem PySem.Spec PyProof.Rows PySem.Froz L2

def txt (e : Int × Value) : Str := match e.2 with | .str x _ => x | _ => Str.empty
/-- the payload holds the texts l, and can be walked -/
structure Tx (w : World) (D : SD) (l : List Str) : Prop where
  each : ∀ e ∈ D.1.toList, ∃ k u, e = (hashStr w k, Value.str k u)
  perm : (D.1.toList.map txt).Perm l
  ris : Ris D.2.2.place.toList
  led : w.params.followText "set-order" = true ∨ D.2.2.led = true
theorem Tx.grow {w : World} {D : SD} {l : List Str} (F : Tx w D l) (k : Str) (u : Tok) : Tx w (addTx (hashStr w k) (.str k u) D) (k :: l) := by
  obtain ⟨es, ep, t⟩ := D
  obtain ⟨f1, f2, f3, f4⟩ := F
  have pm := layNew_perm t es (hashStr w k) (.str k u)
  have ri := layNew_ris t es (hashStr w k) (.str k u) f3
  have le := layNew_led t es (hashStr w k) (.str k u)
  unfold addTx
  dsimp only
  generalize layNew t es (hashStr w k) (.str k u) = Z at pm ri le ⊢
  obtain ⟨ea, ta, wd, gv⟩ := Z
  dsimp only at pm ri le ⊢
  rw [Array.toList_push] at pm
  have e1 : ∀ e ∈ ea.toList, ∃ k u, e = (hashStr w k, Value.str k u) := fun e he => by
    rcases List.mem_append.mp (pm.mem_iff.mp he) with h | h
    · exact f1 e h
    · exact ⟨k, u, by simpa using h⟩
  have e2 : (ea.toList.map txt).Perm (k :: l) := by
    have h := pm.map txt
    rw [List.map_append] at h
    exact (h.trans (List.perm_append_singleton _ _)).trans (List.Perm.cons k f2)
  have hr : Ris (if ta.plain = true then { ta with plain := false } else ta).place.toList := by split <;> exact ri
  have hl : w.params.followText "set-order" = true ∨ (if ta.plain = true then { ta with plain := false } else ta).led = true := by
    rcases f4 with h | h
    · exact Or.inl h
    · exact Or.inr (by split <;> exact le.trans h)
  generalize (if ta.plain = true then { ta with plain := false } else ta) = tb at hr hl ⊢
  unfold tailTx
  split
  · have p2 := relayAll_perm tb ea (SetTable.grown ea.size)
    exact ⟨fun e he => e1 e (p2.mem_iff.mp he), (p2.map txt).trans e2, relayAll_ris _ _ _, hl.imp id fun h => (relayAll_led tb ea _).trans h⟩
  · exact ⟨e1, e2, hr, hl⟩
section
variable {P : Program} {w : World} {A : Around} {E : Value → Shared → Prop} {s : Shared}
/-- the add of a text that is there -/
theorem add_old {a : Addr} {T : String} {D : SD} {l : List Str} {k : Str} {u : Tok} {Q : Bool → Shared → Prop} (ho : s.heap.get? a = some (sObj T D)) (F : TxOk P w D l) (hk : k ∈ l) (hb : l.length < scanBound) (h : Q false s) :
    wpAny (model P w) A (setAddHashed a (.str k u) (hashStr w k)) Q E s := by
  obtain ⟨es, ep, t⟩ := D
  have hd : (sObj T (es, ep, t)).data = .set es ep t := rfl
  have hfit : t.fits es.size = true := F.fit
  have hels : ElemsOf (strKind P w) es.toList := F.el
  have hsize : es.size = l.length := F.sz
  unfold setAddHashed setAddHashedIn
  refine wpAny_holding (wpAny_bind (wpAny_setState_of ho hd hfit ?_))
  dsimp only
  rw [byScan_of rfl (by omega) hels]
  simp only [↓reduceIte]
  unfold setAddByScan
  refine wpAny_bind (wpAny_bind (wpAny_rule (wpAny_bind (wpAny_setScan_of (knd := strKind P w) (k := k) (is_str k u) ho hd hfit hels ?_))))
  cases hi : es.toList.findIdx? (fun e => (strKind P w).is k e.2) with
  | none =>
    obtain ⟨e, he, q⟩ := (F.mem k).mp hk
    have c := (List.findIdx?_eq_none_iff.mp hi) e he
    rw [q] at c; cases c
  | some j => exact wpAny_pure (wpAny_pure h)
/-- xs's texts, one after another, into the set -/
theorem fill {I : Addr} {fp wr : List Addr} {G : Array GenState → Array GenState → Prop} {n : Nat} {Pv : Nat → Value → Prop} {St : Nat → Shared → Prop} {R : Result → Shared → Prop}
    (W : WalksS P w A.in1 I fp wr G n Pv St) (S : Addr) (hSf : S ∉ fp) (xs : List Str) (hn : n = xs.length) (hb : xs.length + 1 < scanBound) (hv : ∀ i v, Pv i v → ∃ k t, xs[i]? = some k ∧ v = .str k t) :
    ∀ (m i : Nat) (s : Shared) (D : SD) (l : List Str), n - i = m → i ≤ n → St i s → s.heap.get? S = some (sObj "set" D) → TxOk P w D l → Tx w D l → l.Nodup → (∀ k, k ∈ l ↔ k ∈ xs.take i) → l.length ≤ i →
      (∀ s' D' l', Moved (S :: wr) G s s' → s'.heap.get? S = some (sObj "set" D') → TxOk P w D' l' → Tx w D' l' → l'.Nodup → (∀ k, k ∈ l' ↔ k ∈ xs) → l'.length ≤ n → R (.ok (.ret .none)) s') →
      codeAny (model P w) A (.builtin "set.update.loop" ⟨[.ref S, .ref I], []⟩) R s := by
  have nS : S ∉ wr := fun h => hSf (W.sub _ h)
  have up : ∀ b ∈ wr, b ∈ S :: wr := fun b h => List.mem_cons_of_mem _ h
  intro m
  induction m with
  | zero =>
    intro i s D l hm hi hst hS F1 F2 nd hmem hle hR
    have hin : i = n := by omega
    subst hin
    rw [List.take_of_length_le (by omega)] at hmem
    refine codeAny_builtin F.entry_set_update_loop ?_; rw [Around.under_plainId F.plain_set_update_loop _]
    show wpAny _ A.in1 (pyNext (.ref I) >>= _) _ _ s
    exact wpAny_bind (W.done s _ _ hst fun s' mv => wpAny_pure (hR s' D l (mv.mono up) (mv.heap S _ nS hS) F1 F2 nd hmem hle))
  | succ m ih =>
    intro i s D l hm hi hst hS F1 F2 nd hmem hle hR
    have hlt : i < n := by omega
    refine codeAny_builtin F.entry_set_update_loop ?_; rw [Around.under_plainId F.plain_set_update_loop _]
    show wpAny _ A.in1 (pyNext (.ref I) >>= _) _ _ s
    refine wpAny_bind (W.item i s _ _ hlt hst fun v s' hP hst' mv => ?_)
    obtain ⟨z, t, hz, rfl⟩ := hv i v hP
    have hS' := mv.heap S _ nS hS
    have tk1 : xs.take (i + 1) = xs.take i ++ [z] := by rw [List.take_add_one, hz]; rfl
    show wpAny _ A.in1 (holding [Value.str z t] (setAdd S (.str z t)) >>= _) _ _ s'
    unfold setAdd
    refine wpAny_bind (wpAny_holding (wpAny_holding (wpAny_bind ((strKind P w).pyHash (k := z) (is_str z t) ?_))))
    by_cases hk : z ∈ l
    · refine add_old (s := { s' with toks := s'.toks + 1 }) hS' F1 hk (by omega) ?_
      refine wpAny_pure ⟨plainId_quiet F.plain_set_update_loop _, ih (i + 1) _ D l (by omega) hlt (W.frame _ s' _ _ hst' (Nat.le_succ _) fun b _ o e => e) hS' F1 F2 nd (fun k => ?_) (by omega) fun s2 D2 l2 mv2 => ?_⟩
      · rw [tk1, List.mem_append, ← hmem k]
        constructor
        · exact Or.inl
        · rintro (h | h)
          · exact h
          · rw [List.mem_singleton] at h; rw [h]; exact hk
      · exact hR s2 D2 l2 (Moved.trans W.gtrans ((mv.mono up).then_heap (Nat.le_succ _) fun b o _ e => e) mv2)
    · refine add_x (s := { s' with toks := s'.toks + 1 }) hS' F1 hk (by omega) ?_
      have gs := get_upd (sObj "set" (addTx (hashStr w z) (.str z t) D)) hS' rfl
      have go : ∀ b o, b ≠ S → s'.heap.get? b = some o → (s'.heap.update S fun _ => sObj "set" (addTx (hashStr w z) (.str z t) D)).get? b = some o := fun b o hne e => (Heap.get?_update_other _ _ (Ne.symm hne)).trans e
      refine wpAny_pure ⟨plainId_quiet F.plain_set_update_loop _, ih (i + 1) _ _ (z :: l) (by omega) hlt (W.frame _ s' _ _ hst' (Nat.le_succ _) fun b hb o e => go b o (fun h => hSf (h ▸ hb)) e) gs (add_ok t F1) (F2.grow z t) (List.nodup_cons.mpr ⟨hk, nd⟩) (fun k => ?_) (by rw [List.length_cons]; omega) fun s2 D2 l2 mv2 => ?_⟩
      · rw [tk1, List.mem_append, List.mem_cons, hmem k, List.mem_singleton]
        exact Or.comm
      · exact hR s2 D2 l2 (Moved.trans W.gtrans ((mv.mono up).then_heap (Nat.le_succ _) fun b o hb e => go b o (fun h => hb (by rw [h]; exact List.mem_cons_self)) e) mv2)
end
section
variable {P : Program} {w : World} {A : Around} {E : Value → Shared → Prop} {s : Shared}
abbrev emptySet (w : World) : Obj := { cls := .type "set", dict := none, data := .set #[] 0 (.fresh 0 0 (!w.params.followText "set-order")) }
theorem Tx.zero (w : World) : Tx w (#[], 0, .fresh 0 0 (!w.params.followText "set-order")) [] := by
  refine ⟨fun e he => by simp at he, List.Perm.refl _, List.Pairwise.nil, ?_⟩
  cases h : w.params.followText "set-order"
  · exact Or.inr (by rfl)
  · exact Or.inl rfl
/-- what set(xs) leaves at S: all texts of xs, each once; what stood before stands -/
def Filled (P : Program) (w : World) (S : Addr) (xs : List Str) (h h' : Heap) : Prop :=
  ∃ D l, h'.get? S = some (sObj "set" D) ∧ TxOk P w D l ∧ Tx w D l ∧ l.Nodup ∧ (∀ k, k ∈ l ↔ k ∈ xs) ∧ l.length ≤ xs.length ∧ ∀ b o, b ≠ S → h.get? b = some o → h'.get? b = some o
/-- the items of a list of texts, one by one -/
theorem texts_at {items : Array Value} {xs : List Str} (hi : StrsAre items.toList xs) (i : Nat) (v : Value) (e : items[i]? = some v) : ∃ k t, xs[i]? = some k ∧ v = .str k t := by
  have ⟨t, e2⟩ := SS.strs_at hi i v (by rw [Array.getElem?_toList]; exact e)
  have lt : i < xs.length := by
    rw [← StrsAre.len_eq hi, Array.length_toList]
    exact (Array.getElem?_eq_some_iff.mp e).1
  refine ⟨xs[i], t, List.getElem?_eq_getElem lt, ?_⟩
  rw [e2, List.getD_eq_getElem?_getD, List.getElem?_eq_getElem lt]; rfl
/-- an empty set takes in a list of texts -/
theorem takes_texts {id : String} {S q : Addr} {items : Array Value} {xs : List Str} {Q : Unit → Shared → Prop} (hh : A.handled = none) (hS : s.heap.get? S = some (emptySet w)) (hq : s.heap.IsList q items) (hi : StrsAre items.toList xs) (hb : xs.length + 1 < scanBound)
    (h : ∀ h' tk, Filled P w S xs s.heap h' → Q () { s with heap := h', toks := tk }) : wpAny (model P w) A (Builtin.Frozenset.updateFrom id S (.ref q)) Q E s := by
  have size : items.size = xs.length := by rw [← StrsAre.len_eq hi, Array.length_toList]
  have ⟨ol, hol, hcl, n, hdl⟩ := hq
  have tyq : s.TypeIs (.ref q) "list" := ⟨ol, hol, hcl⟩
  have aside : q ≠ S := fun e => by
    have : ol = emptySet w := Option.some.inj (hol.symm.trans (e ▸ hS))
    rw [this] at hcl
    exact absurd (show Value.type "set" = Value.type "list" from hcl) (by decide)
  have notSet := PySem.F.sub_list_set
  have notFrozen := PySem.F.sub_list_frozenset
  have notDict : (Value.type "list" == Value.type "dict") = false := by decide
  unfold Builtin.Frozenset.updateFrom
  generalize hPI : pyIter = PI
  wp_walk
  subst hPI
  -- the iterator, new, and the loop over it
  refine wpAny_pyIter_list hq (wpAny_bind (wpAny_runValue ?_))
  have newIt : q ≠ s.heap.objs.size := Nat.ne_of_lt (Heap.lt_size hol)
  have W : WalksS P w A.in1 s.heap.objs.size [s.heap.objs.size, q] [s.heap.objs.size] _ items.size _ _ := (Walks.list (show A.in1.handled = none from hh) s.heap.objs.size q newIt items).toS
  have off : S ∉ [s.heap.objs.size, q] := by
    have lt := Heap.lt_size hS
    simpa using ⟨Nat.ne_of_lt lt, Ne.symm aside⟩
  refine fill W S off xs size hb (texts_at hi) (items.size - 0) 0 { s with heap := s.heap.push { cls := .type "list_iterator", data := .fields #[.ref q, .int 0 0] } } (#[], 0, .fresh 0 0 (!w.params.followText "set-order")) [] rfl (Nat.zero_le _) ⟨⟨_, Heap.get?_push_size _ rfl, rfl, rfl⟩, hq.push _⟩
    (Heap.get?_push_of_some _ hS) (TxOk.nil rfl) (Tx.zero w) List.nodup_nil (fun k => by simp) (Nat.le_refl _) fun s' D l mv c1 c2 c3 c4 c5 c6 => ?_
  have whole : s' = { s with heap := s'.heap, toks := s'.toks } := by
    have e1 := mv.gens; have e2 := mv.drawn; have e3 := mv.os
    cases s'
    cases e1; cases e2; cases e3
    rfl
  rw [whole]
  refine wpAny_pure (h s'.heap s'.toks ⟨D, l, c1, c2, c3, c4, c5, size ▸ c6, fun b o hb e => mv.heap b o ?_ (Heap.get?_push_of_some _ e)⟩)
  simpa using ⟨hb, Nat.ne_of_lt (Heap.lt_size e)⟩
/-- set(xs) of a list of texts -/
theorem call_set {q : Addr} {items : Array Value} {xs : List Str} {Q : Value → Shared → Prop} (hh : A.handled = none) (hq : s.heap.IsList q items) (hi : StrsAre items.toList xs) (hb : xs.length + 1 < scanBound)
    (h : ∀ (h' : Heap) (tk : Nat) (D : SD) (l : List Str), h'.get? s.heap.objs.size = some (sObj "set" D) → TxOk P w D l → Tx w D l → l.Nodup → (∀ k, k ∈ l ↔ k ∈ xs) → l.length ≤ xs.length →
      (∀ b o, s.heap.get? b = some o → h'.get? b = some o) → Q (.ref s.heap.objs.size) { s with heap := h', toks := tk }) : wpAny (model P w) A (call (.type "set") [.ref q]) Q E s := by
  have ⟨_, _, mro⟩ := F.called_set.mro
  have made := F.called_set.made; have sub := F.called_set.sub; have notType := F.called_set.notType; have creates := F.called_set.canCreate; have counts := F.typeCall_set_1 (.ref q)
  -- type's own call: first __new__, which lays an empty set, then __init__, which fills it
  refine wpAny_call (codeAny_of_tree (show wpAny _ _ (callAny (.type "set") _) _ _ _ from wpAny_pure ⟨Code.quiet_builtin _ (by decide +kernel), codeAny_builtin F.entry_type_call ?_⟩))
  rw [Around.under_plain (weight_type_call_type "set" [.ref q] []) rfl]
  repeat (any_goals (first | assumption | wp_step))
  refine codeAny_mono (code_set_led1 (.ref q) (E := E) (Q₁ := fun obj s₁ => obj = .ref s.heap.objs.size ∧ s₁ = { s with heap := s.heap.push (emptySet w) }) ⟨rfl, rfl⟩) ?_
  rintro (e | obj | _) s₁ hr <;> try exact hr
  obtain ⟨rfl, rfl⟩ := hr
  have new : (s.heap.push (emptySet w)).get? s.heap.objs.size = some (emptySet w) := Heap.get?_push_size _ rfl
  have ty : Shared.TypeIs { s with heap := s.heap.push (emptySet w) } (.ref s.heap.objs.size) "set" := ⟨_, new, rfl⟩
  have look := F.called_set.init.lookup; have bind := F.called_set.init.bind (.ref s.heap.objs.size)
  repeat (any_goals (first | assumption | wp_step))
  refine codeAny_mono (codeAny_call_builtin (R := wants (fun r s₂ => r = .none ∧ ∃ tk, Filled P w s.heap.objs.size xs (s.heap.push (emptySet w)) s₂.heap ∧ s₂ = { s with heap := s₂.heap, toks := tk }) E) F.called_set.init.plain F.entry_set_init (check_set_init_1 ty ?_)) ?_
  · have go : ∀ {Qr : Unit → Shared → Prop} {Er : Value → Shared → Prop}, (∀ h' tk, Filled P w s.heap.objs.size xs (s.heap.push (emptySet w)) h' → Qr () { s with heap := h', toks := tk }) →
        wpAny (model P w) A.in1.in1 (Builtin.Frozenset.updateFrom "set.__init__" s.heap.objs.size (.ref q)) Qr Er { s with heap := s.heap.push (emptySet w) } := fun k =>
      takes_texts (s := { s with heap := s.heap.push (emptySet w) }) (show A.in1.in1.handled = none from hh) new (hq.push _) hi hb k
    unfold Builtin.«set.__init__» noKeywords
    wp_walk using go
    intro h' tk full
    exact wpAny_pure ⟨rfl, tk, full, rfl⟩
  · rintro (e | r | _) s₂ hr <;> try exact hr
    obtain ⟨rfl, tk, ⟨D, l, c1, c2, c3, c4, c5, c6, c7⟩, whole⟩ := hr
    repeat (any_goals (first | assumption | wp_step))
    rw [whole]
    exact h _ tk D l c1 c2 c3 c4 c5 c6 fun b o e => c7 b o (Nat.ne_of_lt (Heap.lt_size e)) (Heap.get?_push_of_some _ e)
end
end TS
end

-- part DLT
section
namespace TS
open PySem PySem.Spec PyProof.Rows PySem.Froz L2
theorem rising_le : ∀ (r : List Str) (p : Str), risingS p r = true → ∀ k ∈ r, ¬ k.cps.toList < p.cps.toList
  | [], _, _, k, hk => by cases hk
  | x :: r, p, h, k, hk => by
    unfold risingS at h
    rw [Bool.and_eq_true] at h
    have h1 : ¬ x.cps.toList < p.cps.toList := by
      intro hl
      have h3 := h.1
      rw [ltCps_eq, decide_eq_true hl] at h3
      cases h3
    rcases List.mem_cons.mp hk with e | hk
    · subst e; exact h1
    · intro hl
      refine rising_le r x h.2 k hk ?_
      rcases Classical.em (p.cps.toList < x.cps.toList) with h2 | h2
      · exact List.lt_trans hl h2
      · have e : p.cps.toList = x.cps.toList := List.le_antisymm (List.not_lt.mp h1) (List.not_lt.mp h2)
        rw [← e]; exact hl
theorem rising_strict : ∀ (ys : List Str), sortedS ys = true → ys.Nodup → DL.SortedS ys
  | [], _, _ => List.Pairwise.nil
  | x :: r, h, nd => by
    obtain ⟨n1, n2⟩ := List.nodup_cons.mp nd
    have h' : risingS x r = true := h
    refine List.pairwise_cons.mpr ⟨fun k hk => ?_, rising_strict r ?_ n2⟩
    · have h1 := rising_le r x h' k hk
      rcases Classical.em (x.cps.toList < k.cps.toList) with h2 | h2
      · exact h2
      · exfalso
        have e : x.cps.toList = k.cps.toList := List.le_antisymm (List.not_lt.mp h1) (List.not_lt.mp h2)
        have e2 : x = k := by
          obtain ⟨a⟩ := x; obtain ⟨b⟩ := k
          simp only at e
          congr 1
          exact Array.toList_inj.mp e
        exact n1 (e2 ▸ hk)
    · cases r with
      | nil => rfl
      | cons y r => unfold risingS at h'; rw [Bool.and_eq_true] at h'; exact h'.2
theorem strs_of_entries {w : World} : ∀ {es : List (Int × Value)}, (∀ e ∈ es, ∃ k u, e = (hashStr w k, Value.str k u)) → StrsAre (es.map (·.2)) (es.map txt)
  | [], _ => .nil
  | e :: es, h => by
    obtain ⟨k, u, rfl⟩ := h e (by simp)
    exact .cons k u (strs_of_entries fun e he => h e (by simp [he]))
theorem strs_perm : ∀ {vs us : List Value}, us.Perm vs → ∀ {ks : List Str}, StrsAre vs ks → ∃ js, StrsAre us js ∧ js.Perm ks := by
  intro vs us p
  induction p with
  | nil => intro ks h; exact ⟨ks, h, List.Perm.refl _⟩
  | cons v p ih =>
    intro ks h
    cases h with
    | cons k u h =>
      obtain ⟨js, h1, h2⟩ := ih h
      exact ⟨k :: js, .cons k u h1, List.Perm.cons k h2⟩
  | swap a b l =>
    intro ks h
    cases h with
    | cons k u h =>
      cases h with
      | cons k2 u2 h => exact ⟨k2 :: k :: _, .cons k2 u2 (.cons k u h), List.Perm.swap _ _ _⟩
  | trans p1 p2 ih1 ih2 =>
    intro ks h
    obtain ⟨js, h1, h2⟩ := ih2 h
    obtain ⟨is, h3, h4⟩ := ih1 h1
    exact ⟨is, h3, h4.trans h2⟩
section
variable {P : Program} {w : World} {A : Around} {E : Value → Shared → Prop} {s : Shared}
theorem sorted_of {a : Addr} {D : SD} {l : List Str} {Q : Value → Shared → Prop} (ho : s.heap.get? a = some (sObj "set" D)) (F : TxOk P w D l) (F2 : Tx w D l) (nd : l.Nodup) (hh : A.handled = none) (h64 : l.length < 64)
    (hQ : ∀ s' p (out : Array Value) (c : Nat) (ys : List Str), (∀ b o, s.heap.get? b = some o → s'.heap.get? b = some o) → s'.gens = s.gens → s'.os = s.os → s.heap.objs.size ≤ p →
      s'.heap.get? p = some (seqObj "list" out c) → StrsAre out.toList ys → DL.SortedS ys → (∀ k, k ∈ ys ↔ k ∈ l) → ys.length = l.length → Q (.ref p) s') : wpAny (model P w) A (call (.builtin "sorted") [.ref a]) Q E s := by
  obtain ⟨es, ep, t⟩ := D
  have hsize : es.size = l.length := F.sz
  have hline : l.length < sizeLine ∧ l.length < scanBound := ⟨Nat.lt_trans h64 (by decide), Nat.lt_trans h64 (by decide)⟩
  refine Calls.call_function_entry kind_sorted plain_sorted entry_sorted (args_sorted1 _) ?_
  unfold Builtin.«sorted»
  refine wpAny_bind (m := checkCount "sorted" 1 1 _) (wpAny_pure (wpAny_bind (collect_set (A := A.in1) (es := es) (ep := ep) (t := t) hh ⟨_, ho, rfl, rfl⟩ F.fit (by rw [hsize]; exact hline.2) F2.ris F2.led fun s1 vs k1 z1 g1 o1 pm => ?_)))
  obtain ⟨ks, hks, pk⟩ := strs_perm pm (strs_of_entries F2.each)
  have pl : ks.Perm l := pk.trans F2.perm
  have hvl : vs.length = l.length := by rw [StrsAre.len_eq hks, pl.length_eq]
  refine wpAny_bind (wpAny_newList ?_ (by rw [hvl]; exact Nat.le_of_lt hline.1))
  have hL : (s1.heap.push (seqObj "list" vs.toArray 0)).get? s1.heap.objs.size = some (seqObj "list" vs.toArray 0) := Heap.get?_push_size _ rfl
  refine wpAny_bind (wpAny_holding (wpAny_call_entry slot_list_sort ⟨_, hL, rfl⟩ entry_list_sort
    (list_sort_treeK strKind_oneLt (s := { s1 with heap := s1.heap.push (seqObj "list" vs.toArray 0) }) hL hks.keysOf (fun _ _ _ e => keyKind_strs (by rw [← e]; exact hks)) (by rw [hvl]; exact h64) fun st' hp hs => ⟨_, rfl, ?_⟩) (args_list_sort _)))
  obtain ⟨ys, y1, y2, y3⟩ := sorted_out_str hks hp hs
  obtain ⟨c, hc⟩ := sortedHeap_at (vs := vs) (out := (arrOf st').map (·.2)) hL
  have py : ys.Perm l := y2.trans pl
  refine wpAny_pure ⟨_, rfl, hQ _ s1.heap.objs.size _ c ys (fun b u e => ?_) g1 o1 z1 hc y1 (rising_strict ys y3 (py.nodup_iff.mpr nd)) (fun k => py.mem_iff) py.length_eq⟩
  have q := k1 b u e
  have lt := Heap.lt_size q
  show (sortedHeap (s1.heap.push (seqObj "list" vs.toArray 0)) s1.heap.objs.size vs _).get? b = some u
  rw [sortedHeap_old (Nat.ne_of_lt lt) (by rw [size_push']; exact Nat.lt_succ_of_lt lt)]
  exact Heap.get?_push_of_some _ q
end
/-- sorted(set(xs)), xs a list of texts -/
def tSS (K : PySem.W.Frag) (ta : TE) : TE := fun σ H Q => ta σ H fun x H1 => ∃ (q : Addr) (xs : List Str), x = .ref q ∧ SqL K H1 q (xs.map V.str) ∧ xs.length < 64 ∧
  ∀ (ys : List Str) (p : Addr), DL.SortedS ys → (∀ k, k ∈ ys ↔ k ∈ xs) → ys.length ≤ xs.length → H1 p = none → Q (.ref p) (upd H1 p (.lst (ys.map V.str)))
section
variable {X : Cx} {a : Expr} {ta : TE} {p p2 q pos : Pos}
theorem laid_at {pins : List (Addr × Obj)} {σ : L2.St} {H : Hp} {s s' : Shared} {b : Addr} {out : Array Value} {c : Nat} {ys : List Str} (I : Inv X pins σ H s) (k : ∀ b o, s.heap.get? b = some o → s'.heap.get? b = some o) (g : s'.gens = s.gens) (o : s'.os = s.os)
    (hp : s.heap.objs.size ≤ b) (hgt : s'.heap.get? b = some (seqObj "list" out c)) (hst : StrsAre out.toList ys) (hz : ys.length ≤ 64) : H b = none ∧ Inv X pins σ (upd H b (.lst (ys.map V.str))) s' := by
  have hlen : (ys.map V.str).length ≤ sizeLine := by rw [List.length_map]; exact Nat.le_trans hz (by decide)
  have hn : H b = none := I.hok.fresh hp
  obtain ⟨hp', g', d', t', o'⟩ := s'
  obtain ⟨hp0, g0, d0, t0, o0⟩ := s
  cases o; cases g
  exact ⟨hn, I.call (ch := []) (Un.laid k hp hn) (I.hok.laid k hp ⟨hlen, out.toList, c, vals_of_strs hst, hgt⟩) I.bare (fun _ z => nomatch z)⟩
theorem pe_sortedSet (hc : X.calm = true) (hg : Gl X "sorted") (hm : X.mg "sorted" = none) (hg2 : Gl X "set") (hm2 : X.mg "set" = none) (ha : PE X a ta) (na : starEach [a] X.env = (false, eval a X.env) :: starEach [] X.env := by rfl) :
    PE X (.Call (.Name "sorted" p) [.Call (.Name "set" p2) [a] [] q] [] pos) (tSS X.K ta) := by
  refine ⟨fun pins s σ H Q I h => ?_⟩
  refine Call_ (ld_blt I hg hm boot_sorted ?_)
  refine callWith_builtin1 (args_cons ?_ rfl) rfl rfl
  refine Call_ (ld_blt I hg2 hm2 boot_set ?_)
  refine callWith_type1 (args_cons (thn (ha.run pins s σ H _ I h) fun v s1 ⟨x, H1, I1, r1, q1⟩ => args_nil ?_) na) na rfl
  obtain ⟨b, xs, rfl, hq, h1, q1⟩ := q1
  cases r1
  obtain ⟨its, r, pl, hz⟩ := I1.list hq
  have hS : StrsAre its xs := strsAre_of r
  refine call_set (P := X.prog) (I1.ok.hd hc) pl.isList (by simpa using hS) (Nat.lt_trans (Nat.succ_lt_succ h1) (by decide)) fun h' tk D l c1 c2 c3 c4 c5 c6 c7 => ?_
  refine args_nil ?_
  have I2 : Inv X pins σ H1 { s1 with heap := h', toks := tk } := I1.kept c7
  refine sorted_of (s := { s1 with heap := h', toks := tk }) c1 c2 c3 c4 (I2.ok.hd hc) (by omega) fun s' p out c ys k g o hp hgt hst hs hm hl => ?_
  obtain ⟨hn, J⟩ := laid_at I2 k g o hp hgt hst (by omega)
  exact ⟨.ref p, _, J, rfl, q1 ys p hs (fun k => (hm k).trans (c5 k)) (by omega) hn⟩
end
end TS
end

-- part DLR
section
/-! t[::-1] of a tuple. -/
namespace RV
open PySem PySem.Spec PyProof.Rows L2 HT
theorem adj_back (n : Nat) : Builtin.Slice.sliceAdjust none none (-1) (n : Int) = ((n : Int) - 1, -1) := by
  unfold Builtin.Slice.sliceAdjust; simp
theorem places_back (n : Nat) : Builtin.Slice.slicePlaces ((n : Int) - 1) (-1) (-1) = n := by
  unfold Builtin.Slice.slicePlaces
  rw [if_neg (by omega), show (-(-1 : Int)) = 1 from rfl, Int.ediv_one]
  split <;> omega
theorem pick_back (xs : Array Value) : ((List.range xs.size).filterMap fun (m : Nat) => xs[((xs.size : Int) - 1 + (m : Int) * (-1)).toNat]?) = xs.toList.reverse := by
  have h1 : ∀ l : List Nat, (∀ m ∈ l, m < xs.size) → (l.filterMap fun (m : Nat) => xs[((xs.size : Int) - 1 + (m : Int) * (-1)).toNat]?) = l.map fun m => xs.toList.reverse.getD m .none := by
    intro l
    induction l with
    | nil => intro _; rfl
    | cons m l ih =>
      intro h
      have hm := h m (by simp)
      have e : ((xs.size : Int) - 1 + (m : Int) * (-1)).toNat = xs.size - 1 - m := by omega
      have e2 : xs[xs.size - 1 - m]? = some (xs[xs.size - 1 - m]'(by omega)) := Array.getElem?_eq_getElem (by omega)
      rw [List.filterMap_cons, e, e2, List.map_cons, ih fun j hj => h j (by simp [hj])]
      congr 1
      rw [List.getD_eq_getElem?_getD, List.getElem?_reverse (by rw [Array.length_toList]; exact hm), Array.length_toList, Array.getElem?_toList, e2]
      rfl
  rw [h1 _ fun m hm => List.mem_range.mp hm]
  apply List.ext_getElem
  · simp
  · intro i a b
    rw [List.getElem_map, List.getElem_range, List.getD_eq_getElem?_getD, List.getElem?_eq_getElem b]
    rfl
section
variable {prog : Program} {w : World} {A : Around} {E : Value → Shared → Prop} {s : Shared}
theorem applied_back {sl : Addr} {vl vu vs : Value} {n : Nat} {Q : Int × Int × Nat → Shared → Prop} (hs : s.heap.IsSliceOf sl vl vu vs) (pl : IsPart vl none) (pu : IsPart vu none) (ps : IsPart vs (some (-1)))
    (h : Q ((n : Int) - 1, -1, n) s) : wpAny (model prog w) A (Builtin.Slice.sliceApplied (.ref sl) (pure (n : Int))) Q E s := by
  obtain ⟨ob, hob, hcb, hdb⟩ := id hs
  unfold Builtin.Slice.sliceApplied Builtin.Slice.sliceFields
  refine wpAny_bind (wpAny_bind (wpAny_field hob hdb (x := vl) rfl (wpAny_bind (wpAny_field hob hdb (x := vu) rfl (wpAny_bind (wpAny_field hob hdb (x := vs) rfl (wpAny_pure ?_)))))))
  refine wpAny_bind (HT.slicePart_ ps ?_)
  show wpAny _ _ (if ((-1 : Int) == 0) = true then _ else _) _ _ s
  rw [if_neg (by decide)]
  refine wpAny_bind (HT.slicePart_ pl (wpAny_bind (HT.slicePart_ pu (wpAny_bind (wpAny_pure ?_)))))
  show wpAny _ _ (match Builtin.Slice.sliceAdjust none none (-1) (n : Int) with | (lo, hi) => pure (lo, (-1 : Int), Builtin.Slice.slicePlaces lo hi (-1))) _ _ s
  rw [adj_back]
  show wpAny _ _ (pure ((n : Int) - 1, (-1 : Int), Builtin.Slice.slicePlaces ((n : Int) - 1) (-1) (-1))) _ _ s
  rw [places_back]
  exact wpAny_pure h
theorem getItem_back {t sl : Addr} {items : Array Value} {vl vu vs : Value} {Q : Value → Shared → Prop} (ht : IsTup s.heap t items) (hs : s.heap.IsSliceOf sl vl vu vs) (pl : IsPart vl none) (pu : IsPart vu none) (ps : IsPart vs (some (-1)))
    (h : Q (.ref s.heap.objs.size) { s with heap := s.heap.push { cls := .type "tuple", data := .seq items.toList.reverse.toArray } }) (hsz : items.size ≤ sizeLine) : wpAny (model prog w) A (getItem (.ref t) (.ref sl)) Q E s := by
  have hok : sizeOk (.seq items.toList.reverse.toArray) := by
    show items.toList.reverse.toArray.size ≤ sizeLine
    rw [List.size_toArray, List.length_reverse, Array.length_toList]; exact hsz
  obtain ⟨ob, hob, hcb, hdb⟩ := id hs
  have hTs : s.TypeIs (.ref sl) "slice" := ⟨ob, hob, hcb⟩
  unfold getItem
  try with_reducible refine wpAny_holding ?_
  first | refine wpAny_bind (wpAny_pure ?_) | skip
  refine wpAny_bind (wpAny_sequenceKey ht.typeIs (by decide) (wpAny_bind (wpAny_callSpecial?_slot (name := Str.ofString "__getitem__") ht.typeIs PyProof.Rows.slot_tuple_getitem
    (wpAny_call_entry PyProof.Rows.slot_tuple_getitem ht.typeIs entry_tuple_getitem ?_ (args_tuple_getitem _ _)))))
  show wpAny _ _ (Builtin.Tuple.tupleItemsOf (.ref t) >>= _) _ _ s
  refine wpAny_bind (tupleItemsOf_ ht (wpAny_bind (wpAny_typeOf hTs ?_)))
  rw [if_pos (by decide)]
  refine wpAny_bind (applied_back hs pl pu ps ?_)
  have hno : ¬ ((((items.size : Int) - 1) == 0 && (-1 : Int) == 1 && items.size == items.size) = true) := by
    rw [show ((-1 : Int) == 1) = false from by decide, Bool.and_false, Bool.false_and]
    exact Bool.false_ne_true
  show wpAny _ _ (if (((items.size : Int) - 1) == 0 && (-1 : Int) == 1 && items.size == items.size) = true then _ else _) _ _ s
  rw [if_neg hno, pick_back]
  first
    | exact wpAny_bind (m := Builtin.Tuple.tupleExact _) (wpAny_newObj_type (wpAny_pure ⟨_, rfl, wpAny_pure h⟩) hok)
    | exact wpAny_bind (m := Builtin.Tuple.tupleExact _) (wpAny_newObj_type (wpAny_bind (wpAny_pure (wpAny_pure ⟨_, rfl, wpAny_pure h⟩))) hok)
    | exact wpAny_bind (wpAny_bind (m := Builtin.Tuple.tupleExact _) (wpAny_newObj_type (wpAny_pure (wpAny_pure ⟨_, rfl, wpAny_pure h⟩)) hok))
    | exact wpAny_bind (wpAny_bind (m := Builtin.Tuple.tupleExact _) (wpAny_newObj_type (wpAny_pure ⟨_, rfl, wpAny_pure h⟩) hok))
end
def tRevT (K : PySem.W.Frag) (te : TE) : TE := fun σ H Q => te σ H fun x H1 => ∃ a xs, x = .ref a ∧ SqT K H1 a xs ∧ ∀ p, H1 p = none → Q (.ref p) (upd H1 p (.tup xs.reverse))
section
variable {X : Cx}
theorem pe_revT {e : Expr} {te : TE} {k : Nat} {p1 p2 p3 pos : Pos} (he : PE X e te) : PE X (.Subscript e (.Slice none none (some (.UnaryOp .USub (.Constant (.int 1) k p1) p2)) p3) pos) (tRevT X.K te) := by
  refine ⟨fun pins s σ H Q I h => Subscript_ (thn (he.run pins s σ H _ I h) fun v s1 ⟨x, H1, I1, r1, q1⟩ => ?_)⟩
  obtain ⟨a, xs, ex, hx, q⟩ := q1
  subst ex
  cases r1
  have hst : PO X (some (.UnaryOp .USub (.Constant (.int 1) k p1) p2)) (tPart (tUn (rU fun i => .int (-i)) (tC (.int 1)))) := po_some (pe_un un_neg pe_int)
  refine wpAny_Slice (thn (po_none.run pins s1 σ H1 (fun o H2 => o = none ∧ H2 = H1) I1 ⟨rfl, rfl⟩) fun vl s2 ⟨o1, H2, I2, pl, e1, e2⟩ => ?_)
  subst e1 e2
  refine thn (po_none.run pins s2 σ H2 (fun o H3 => o = none ∧ H3 = H2) I2 ⟨rfl, rfl⟩) fun vu s3 ⟨o2, H3, I3, pu, e3, e4⟩ => ?_
  subst e3 e4
  refine thn (hst.run pins s3 σ H3 (fun o H4 => o = some (-1) ∧ H4 = H3) I3 ⟨1, rfl, -1, rfl, rfl, rfl⟩) fun vs s4 ⟨o3, H4, I4, ps, e5, e6⟩ => ?_
  subst e5 e6
  have I5 : Inv X pins σ H4 { s4 with heap := s4.heap.push { cls := .type "slice", data := .fields #[vl, vu, vs] } } := I4.kept (t' := s4.toks) fun b ob q => Heap.get?_push_of_some _ q
  obtain ⟨its, r, ht, hz⟩ := I5.tuple hx
  have hlen := r.length
  show wpAny (model X.prog X.w) X.A (subscriptTail e (.Slice none none (some (.UnaryOp .USub (.Constant (.int 1) k p1) p2)) p3) (.ref a) (.ref s4.heap.objs.size)) (EP X pins σ Q) X.xe _
  have hT : Shared.TypeIs { s4 with heap := s4.heap.push { cls := .type "slice", data := .fields #[vl, vu, vs] } } (.ref a) "tuple" := by
    exact ht.typeIs
  refine tail_any (ops := [.ref a, .ref s4.heap.objs.size]) hT (PyProof.Rows.slot_tuple_getitem.lookup) ?_ (by with_unfolding_all rfl)
  refine getItem_back (items := its.toArray) ht (Heap.IsSliceOf.new _ vl vu vs) pl pu ps ?_ (by rw [List.size_toArray]; omega)
  refine ⟨.ref _, _, I5.laid (t' := s4.toks) (o := .tup xs.reverse) (fun b ob q => Heap.get?_push_of_some _ q) (Nat.le_refl _) ?_, rfl, q _ (I5.hok.fresh (Nat.le_refl _))⟩
  exact ⟨by rw [List.length_reverse]; exact hz, _, r.reverse, IsTup.new _ _⟩
end
end RV
end

-- part DL8
section
namespace DL
open PySem L2
theorem dss_never {X : Cx} {sts : List Stmt} : DSs X sts sNever := weakSs pss_never fun D' σ H ⟨ρ, μ, E, s, g, c⟩ => g
def strsD : List D → Option (List Str)
  | [] => some []
  | .str i :: ds => (strsD ds).map (i :: ·)
  | _ :: _ => none
theorem strs_map : ∀ l : List Str, strsD (l.map D.str) = some l
  | [] => rfl
  | a :: l => by rw [List.map_cons, strsD, strs_map l]; rfl
/-- sorted(set(xs)), xs a list of texts -/
def dSortS (F : TF D) : TF D := fun ρ μ Q => F ρ μ fun x μ1 => ∃ ds ks, x = .lst ds ∧ strsD ds = some ks ∧ ks.length < 64 ∧ ∀ ys : List Str, SortedS ys → (∀ k, k ∈ ys ↔ k ∈ ks) → Q (.lst (ys.map .str)) μ1
theorem strs_inv {K : PySem.W.Frag} {G : Hp} : ∀ {ds : List D} {xs : List V} {ks : List Str}, RpAll K G xs ds → strsD ds = some ks → xs = ks.map V.str ∧ ds = ks.map D.str ∧ ∀ k ∈ ks, SOk k
  | [], _, ks, .nil, h => by cases h; exact ⟨rfl, rfl, by simp⟩
  | .str k :: ds, _, ks, .cons (.str _ ok) r, h => by
    unfold strsD at h
    cases q : strsD ds with
    | none => rw [q] at h; cases h
    | some js =>
      rw [q] at h; cases h
      obtain ⟨h1, h2, h3⟩ := strs_inv r q
      refine ⟨by rw [h1]; rfl, by rw [h2]; rfl, fun j hj => ?_⟩
      rcases List.mem_cons.mp hj with e | hj
      · subst e; exact ok
      · exact h3 j hj
theorem rp_strs {K : PySem.W.Frag} {G : Hp} : ∀ {ks : List Str}, (∀ k ∈ ks, SOk k) → RpAll K G (ks.map V.str) (ks.map D.str)
  | [], _ => .nil
  | k :: ks, h => .cons (.str k (h k (by simp))) (rp_strs fun j hj => h j (by simp [hj]))
theorem de_sortedSet {X : Cx} {e : Expr} {F : TF D} {p1 p2 c1 c2 : Pos} (h1 : X.mg "sorted" = none) (h2 : X.mg "set" = none) (he : DE X e F) (hg1 : Gl X "sorted" := by rfl) (hg2 : Gl X "set" := by rfl) (hc : X.calm = true := by rfl)
    (na : starEach [e] X.env = (false, eval e X.env) :: starEach [] X.env := by rfl) :
    DE X (.Call (.Name "sorted" p1) [.Call (.Name "set" p2) [e] [] c2] [] c1) (dSortS F) := by
  refine weakE (TS.pe_sortedSet hc hg1 h1 hg2 h2 he na) fun σ H Q ⟨ρ, μ, Qd, s, f, kk⟩ => Lift.go (F := F) s f fun x μ1 v H1 ⟨ds, ks, ex, hks, hl, g⟩ s1 n1 r1 => ?_
  subst ex
  cases r1 with
  | lst ha ra za =>
    obtain ⟨e1, e2, e3⟩ := strs_inv ra hks
    subst e1; subst e2
    refine ⟨_, ks, rfl, SqL.of (hide_in ha), hl, fun ys p hs hm hlen hp => ?_⟩
    have n2 : Nx X.K H1 μ1 (upd H1 p (.lst (ys.map V.str))) μ1 := Nx.new s1.wd hp
    exact kk _ μ1 _ _ (g ys hs hm) (n1.trans n2) (.lst (new_at (s1.wd.free hp)) (rp_strs fun k hk => e3 k ((hm k).mp hk)) (by rw [List.length_map]; exact Nat.le_trans (by omega : ys.length ≤ 64) (by decide)))
/-- t[::-1], t a tuple -/
def dRev (F : TF D) : TF D := fun ρ μ Q => F ρ μ fun x μ1 => ∃ ds, x = .tup ds ∧ Q (.tup ds.reverse) μ1
theorem RpAll.rev {K : PySem.W.Frag} {G : Hp} : ∀ {vs : List V} {ds : List D}, RpAll K G vs ds → RpAll K G vs.reverse ds.reverse
  | _, _, .nil => .nil
  | _, _, .cons r t => by rw [List.reverse_cons, List.reverse_cons]; exact (RpAll.rev t).append (.cons r .nil)
theorem de_slStep {X : Cx} {e : Expr} {F : TF D} {k : Nat} {p1 p2 p3 pos : Pos} (he : DE X e F) : DE X (.Subscript e (.Slice none none (some (.UnaryOp .USub (.Constant (.int 1) k p1) p2)) p3) pos) (dRev F) := by
  refine weakE (RV.pe_revT he) fun σ H Q ⟨ρ, μ, Qd, s, f, kk⟩ => Lift.go (F := F) s f fun x μ1 v H1 ⟨ds, ex, g⟩ s1 n1 r1 => ?_
  subst ex
  cases r1 with
  | @tup a xs ds ha ra za =>
    refine ⟨a, xs, rfl, SqT.of (hide_in ha), fun p hp => ?_⟩
    have n2 : Nx X.K H1 μ1 (upd H1 p (.tup xs.reverse)) μ1 := Nx.new s1.wd hp
    exact kk _ μ1 _ _ g (n1.trans n2) (.tup (new_at (s1.wd.free hp)) (ra.rev.mono n2.ext) (by rw [List.length_reverse]; exact za))


/-- a comprehension with two fors, by its turns -/
theorem lc2_pure {F : TF (List D)} {g : TGD} {A : TF Bool} {F2 : TF (List D)} {g2 : TGD} {A2 : TF Bool} {Fe : TF D} {vs vs1 : List Nat} {ρ : Env} {μ : Mu} {Q : D → Mu → Prop} {ds : List D} (es : D → List D) (ρ2 : D → Env) (h : D → D → Option D)
    (hF : ∀ R : List D → Mu → Prop, R ds μ → F ρ μ R) (hn : (ds.flatMap es).length < sizeLine)
    (h1 : ∀ d ∈ ds, ∀ p acc, μ p = none → ∀ (X : Env → List D → Mu → Prop) (Y : Mu → Prop), X (ρ2 d) (es d) (μ.put p (.lst acc)) → g d (wipeE ρ vs) fun ρ' => A ρ' (μ.put p (.lst acc)) fun b μ2 => if b = true then F2 ρ' μ2 (X ρ') else Y μ2)
    (h2 : ∀ d ∈ ds, ∀ e ∈ es d, TurnS g2 A2 Fe (wipeE (ρ2 d) vs1) μ (fun e r => r = h d e) e)
    (hQ : Q (.lst (ds.flatMap fun d => (es d).filterMap (h d))) μ) : dLc2 F g A F2 g2 A2 Fe vs vs1 ρ μ Q := by
  refine hF _ fun p hp => ⟨fun i μ' => μ' = μ.put p (.lst ((ds.take i).flatMap fun d => (es d).filterMap (h d))), rfl, fun i d μ' hd e => ?_, fun μ' e => ?_⟩
  · subst e
    have hm := List.mem_of_getElem? hd
    have et : ds.take (i + 1) = ds.take i ++ [d] := by rw [List.take_add_one, hd]; rfl
    refine h1 d hm p _ hp (fun ρ' es' μ3 => ∃ J : Nat → Mu → Prop, J 0 μ3 ∧ (∀ j e μ4, es'[j]? = some e → J j μ4 → lcTurn g2 A2 Fe (wipeE ρ' vs1) e μ4 (lcStep p J j)) ∧ ∀ μ4, J es'.length μ4 → μ4 = μ.put p (.lst ((ds.take (i + 1)).flatMap fun d => (es d).filterMap (h d)))) _ ?_
    refine ⟨fun j μ4 => μ4 = μ.put p (.lst (((ds.take i).flatMap fun d => (es d).filterMap (h d)) ++ ((es d).take j).filterMap (h d))), by simp, fun j e μ4 he e4 => ?_, fun μ4 e4 => ?_⟩
    · subst e4
      have ej : (es d).take (j + 1) = (es d).take j ++ [e] := by rw [List.take_add_one, he]; rfl
      refine h2 d hm e (List.mem_of_getElem? he) p _ hp _ fun r hr => ?_
      subst hr
      cases q : h d e with
      | none =>
        show _ = _
        rw [ej, List.filterMap_append]
        simp [q]
      | some y =>
        refine ⟨_, Mu.put_same, ?_, ?_⟩
        · have l1 : ((ds.take i).flatMap fun d => (es d).filterMap (h d)).length ≤ ((ds.take i).flatMap es).length := by
            rw [List.length_flatMap, List.length_flatMap]
            exact go _
          have l2 : (((es d).take j).filterMap (h d)).length ≤ (es d).length := Nat.le_trans (List.length_filterMap_le _ _) (by rw [List.length_take]; omega)
          have l3 : ((ds.take i).flatMap es).length + (es d).length ≤ (ds.flatMap es).length := by
            have : ((ds.take (i + 1)).flatMap es).length ≤ (ds.flatMap es).length := by
              conv => rhs; rw [← List.take_append_drop (i + 1) ds, List.flatMap_append, List.length_append]
              omega
            rw [et, List.flatMap_append, List.length_append] at this
            simpa using this
          rw [List.length_append]
          omega
        · show _ = _
          rw [Mu.put_put, ej, List.filterMap_append]
          simp [q]
    · subst e4
      rw [List.take_length, et, List.flatMap_append]
      simp
  · subst e
    rw [List.take_length]
    refine ⟨_, Mu.put_same, ?_⟩
    rw [Mu.put_del hp]
    exact hQ
where
  go : ∀ l : List D, (l.map fun d => ((es d).filterMap (h d)).length).sum ≤ (l.map fun d => (es d).length).sum
    | [] => Nat.le_refl _
    | d :: l => by
      simp only [List.map_cons, List.sum_cons]
      have := List.length_filterMap_le (h d) (es d)
      have := go l
      omega
theorem q_ss {a b : Str} : eqvD (.str a) (.str b) = (a == b) := by simp [eqvD]
theorem q_ii {a b : Int} : eqvD (.int a) (.int b) = (a == b) := by simp [eqvD]
theorem q_bb {a b : Bool} : eqvD (.bl a) (.bl b) = (a == b) := by simp [eqvD]
theorem q_nn : eqvD .non .non = true := by simp [eqvD]
theorem q_tt {a b : List D} : eqvD (.tup a) (.tup b) = eqvDs a b := by simp [eqvD]
theorem q_ll {a b : List D} : eqvD (.lst a) (.lst b) = eqvDs a b := by simp [eqvD]
theorem q_si {a : Str} {b : Int} : eqvD (.str a) (.int b) = false := by simp [eqvD]
theorem q_sn {a : Str} : eqvD (.str a) .non = false := by simp [eqvD]
theorem q_st {a : Str} {b : List D} : eqvD (.str a) (.tup b) = false := by simp [eqvD]
theorem q_sl {a : Str} {b : List D} : eqvD (.str a) (.lst b) = false := by simp [eqvD]
theorem q_is {a : Int} {b : Str} : eqvD (.int a) (.str b) = false := by simp [eqvD]
theorem q_in {a : Int} : eqvD (.int a) .non = false := by simp [eqvD]
theorem q_it {a : Int} {b : List D} : eqvD (.int a) (.tup b) = false := by simp [eqvD]
theorem q_il {a : Int} {b : List D} : eqvD (.int a) (.lst b) = false := by simp [eqvD]
theorem q_ns {b : Str} : eqvD .non (.str b) = false := by simp [eqvD]
theorem q_ni {b : Int} : eqvD .non (.int b) = false := by simp [eqvD]
theorem q_nt {b : List D} : eqvD .non (.tup b) = false := by simp [eqvD]
theorem q_nl {b : List D} : eqvD .non (.lst b) = false := by simp [eqvD]
theorem q_ts {a : List D} {b : Str} : eqvD (.tup a) (.str b) = false := by simp [eqvD]
theorem q_ti {a : List D} {b : Int} : eqvD (.tup a) (.int b) = false := by simp [eqvD]
theorem q_tn {a : List D} : eqvD (.tup a) .non = false := by simp [eqvD]
theorem q_tl {a : List D} {b : List D} : eqvD (.tup a) (.lst b) = false := by simp [eqvD]
theorem q_ls {a : List D} {b : Str} : eqvD (.lst a) (.str b) = false := by simp [eqvD]
theorem q_li {a : List D} {b : Int} : eqvD (.lst a) (.int b) = false := by simp [eqvD]
theorem q_ln {a : List D} : eqvD (.lst a) .non = false := by simp [eqvD]
theorem q_lt {a : List D} {b : List D} : eqvD (.lst a) (.tup b) = false := by simp [eqvD]
theorem qs_nil : eqvDs [] [] = true := by simp [eqvDs]
theorem qs_cons {x y : D} {xs ys : List D} : eqvDs (x :: xs) (y :: ys) = (eqvD x y && eqvDs xs ys) := by simp [eqvDs]
theorem qs_nc {y : D} {ys : List D} : eqvDs [] (y :: ys) = false := by simp [eqvDs]
theorem qs_cn {y : D} {ys : List D} : eqvDs (y :: ys) [] = false := by simp [eqvDs]
theorem p_t16 {ds : List D} : plain 16 (.tup ds) = plains 15 ds := by simp [plain]
theorem p_l16 {ds : List D} : plain 16 (.lst ds) = plains 15 ds := by simp [plain]
theorem p_t15 {ds : List D} : plain 15 (.tup ds) = plains 14 ds := by simp [plain]
theorem p_l15 {ds : List D} : plain 15 (.lst ds) = plains 14 ds := by simp [plain]
theorem p_t14 {ds : List D} : plain 14 (.tup ds) = plains 13 ds := by simp [plain]
theorem p_l14 {ds : List D} : plain 14 (.lst ds) = plains 13 ds := by simp [plain]
theorem p_t13 {ds : List D} : plain 13 (.tup ds) = plains 12 ds := by simp [plain]
theorem p_l13 {ds : List D} : plain 13 (.lst ds) = plains 12 ds := by simp [plain]
theorem p_t12 {ds : List D} : plain 12 (.tup ds) = plains 11 ds := by simp [plain]
theorem p_l12 {ds : List D} : plain 12 (.lst ds) = plains 11 ds := by simp [plain]
theorem p_s {n : Nat} {a : Str} : plain n (.str a) = true := by cases n <;> simp [plain]
theorem p_i {n : Nat} {a : Int} : plain n (.int a) = true := by cases n <;> simp [plain]
theorem p_b {n : Nat} {a : Bool} : plain n (.bl a) = true := by cases n <;> simp [plain]
theorem p_n {n : Nat} : plain n .non = true := by cases n <;> simp [plain]
theorem ps_nil {n : Nat} : plains n [] = true := by simp [plains]
theorem ps_cons {n : Nat} {d : D} {ds : List D} : plains n (d :: ds) = (plain n d && plains n ds) := by simp [plains]
theorem t_b {b : Bool} : truD (.bl b) = some b := rfl
theorem t_i {i : Int} : truD (.int i) = some (i != 0) := rfl
theorem t_l {ds : List D} : truD (.lst ds) = some (!ds.isEmpty) := rfl
theorem t_t {ds : List D} : truD (.tup ds) = some (!ds.isEmpty) := rfl
theorem t_n : truD .non = some false := rfl
theorem n_n : isN .non = true := rfl
theorem n_i {i : Int} : isN (.int i) = false := rfl
theorem n_s {i : Str} : isN (.str i) = false := rfl
theorem n_t {i : List D} : isN (.tup i) = false := rfl
theorem n_l {i : List D} : isN (.lst i) = false := rfl
theorem n_b {i : Bool} : isN (.bl i) = false := rfl
theorem f_s {s : Str} : flatD (.str s) = true := rfl
theorem f_i {s : Int} : flatD (.int s) = true := rfl
/-! ### the words of news differ -/
theorem w_wrote_many : ((Str.ofString "wrote" : Str) = Str.ofString "many") = False := eq_false (by decide +kernel)
theorem w_wrote_many_b : ((Str.ofString "wrote" : Str) == Str.ofString "many") = false := by decide +kernel
theorem w_wrote_among : ((Str.ofString "wrote" : Str) = Str.ofString "among") = False := eq_false (by decide +kernel)
theorem w_wrote_among_b : ((Str.ofString "wrote" : Str) == Str.ofString "among") = false := by decide +kernel
theorem w_wrote_did : ((Str.ofString "wrote" : Str) = Str.ofString "did") = False := eq_false (by decide +kernel)
theorem w_wrote_did_b : ((Str.ofString "wrote" : Str) == Str.ofString "did") = false := by decide +kernel
theorem w_wrote_times : ((Str.ofString "wrote" : Str) = Str.ofString "times") = False := eq_false (by decide +kernel)
theorem w_wrote_times_b : ((Str.ofString "wrote" : Str) == Str.ofString "times") = false := by decide +kernel
theorem w_wrote_value : ((Str.ofString "wrote" : Str) = Str.ofString "value") = False := eq_false (by decide +kernel)
theorem w_wrote_value_b : ((Str.ofString "wrote" : Str) == Str.ofString "value") = false := by decide +kernel
theorem w_wrote_head : ((Str.ofString "wrote" : Str) = Str.ofString "head") = False := eq_false (by decide +kernel)
theorem w_wrote_head_b : ((Str.ofString "wrote" : Str) == Str.ofString "head") = false := by decide +kernel
theorem w_many_wrote : ((Str.ofString "many" : Str) = Str.ofString "wrote") = False := eq_false (by decide +kernel)
theorem w_many_wrote_b : ((Str.ofString "many" : Str) == Str.ofString "wrote") = false := by decide +kernel
theorem w_many_among : ((Str.ofString "many" : Str) = Str.ofString "among") = False := eq_false (by decide +kernel)
theorem w_many_among_b : ((Str.ofString "many" : Str) == Str.ofString "among") = false := by decide +kernel
theorem w_many_did : ((Str.ofString "many" : Str) = Str.ofString "did") = False := eq_false (by decide +kernel)
theorem w_many_did_b : ((Str.ofString "many" : Str) == Str.ofString "did") = false := by decide +kernel
theorem w_many_times : ((Str.ofString "many" : Str) = Str.ofString "times") = False := eq_false (by decide +kernel)
theorem w_many_times_b : ((Str.ofString "many" : Str) == Str.ofString "times") = false := by decide +kernel
theorem w_many_value : ((Str.ofString "many" : Str) = Str.ofString "value") = False := eq_false (by decide +kernel)
theorem w_many_value_b : ((Str.ofString "many" : Str) == Str.ofString "value") = false := by decide +kernel
theorem w_many_head : ((Str.ofString "many" : Str) = Str.ofString "head") = False := eq_false (by decide +kernel)
theorem w_many_head_b : ((Str.ofString "many" : Str) == Str.ofString "head") = false := by decide +kernel
theorem w_among_wrote : ((Str.ofString "among" : Str) = Str.ofString "wrote") = False := eq_false (by decide +kernel)
theorem w_among_wrote_b : ((Str.ofString "among" : Str) == Str.ofString "wrote") = false := by decide +kernel
theorem w_among_many : ((Str.ofString "among" : Str) = Str.ofString "many") = False := eq_false (by decide +kernel)
theorem w_among_many_b : ((Str.ofString "among" : Str) == Str.ofString "many") = false := by decide +kernel
theorem w_among_did : ((Str.ofString "among" : Str) = Str.ofString "did") = False := eq_false (by decide +kernel)
theorem w_among_did_b : ((Str.ofString "among" : Str) == Str.ofString "did") = false := by decide +kernel
theorem w_among_times : ((Str.ofString "among" : Str) = Str.ofString "times") = False := eq_false (by decide +kernel)
theorem w_among_times_b : ((Str.ofString "among" : Str) == Str.ofString "times") = false := by decide +kernel
theorem w_among_value : ((Str.ofString "among" : Str) = Str.ofString "value") = False := eq_false (by decide +kernel)
theorem w_among_value_b : ((Str.ofString "among" : Str) == Str.ofString "value") = false := by decide +kernel
theorem w_among_head : ((Str.ofString "among" : Str) = Str.ofString "head") = False := eq_false (by decide +kernel)
theorem w_among_head_b : ((Str.ofString "among" : Str) == Str.ofString "head") = false := by decide +kernel
theorem w_did_wrote : ((Str.ofString "did" : Str) = Str.ofString "wrote") = False := eq_false (by decide +kernel)
theorem w_did_wrote_b : ((Str.ofString "did" : Str) == Str.ofString "wrote") = false := by decide +kernel
theorem w_did_many : ((Str.ofString "did" : Str) = Str.ofString "many") = False := eq_false (by decide +kernel)
theorem w_did_many_b : ((Str.ofString "did" : Str) == Str.ofString "many") = false := by decide +kernel
theorem w_did_among : ((Str.ofString "did" : Str) = Str.ofString "among") = False := eq_false (by decide +kernel)
theorem w_did_among_b : ((Str.ofString "did" : Str) == Str.ofString "among") = false := by decide +kernel
theorem w_did_times : ((Str.ofString "did" : Str) = Str.ofString "times") = False := eq_false (by decide +kernel)
theorem w_did_times_b : ((Str.ofString "did" : Str) == Str.ofString "times") = false := by decide +kernel
theorem w_did_value : ((Str.ofString "did" : Str) = Str.ofString "value") = False := eq_false (by decide +kernel)
theorem w_did_value_b : ((Str.ofString "did" : Str) == Str.ofString "value") = false := by decide +kernel
theorem w_did_head : ((Str.ofString "did" : Str) = Str.ofString "head") = False := eq_false (by decide +kernel)
theorem w_did_head_b : ((Str.ofString "did" : Str) == Str.ofString "head") = false := by decide +kernel
theorem w_times_wrote : ((Str.ofString "times" : Str) = Str.ofString "wrote") = False := eq_false (by decide +kernel)
theorem w_times_wrote_b : ((Str.ofString "times" : Str) == Str.ofString "wrote") = false := by decide +kernel
theorem w_times_many : ((Str.ofString "times" : Str) = Str.ofString "many") = False := eq_false (by decide +kernel)
theorem w_times_many_b : ((Str.ofString "times" : Str) == Str.ofString "many") = false := by decide +kernel
theorem w_times_among : ((Str.ofString "times" : Str) = Str.ofString "among") = False := eq_false (by decide +kernel)
theorem w_times_among_b : ((Str.ofString "times" : Str) == Str.ofString "among") = false := by decide +kernel
theorem w_times_did : ((Str.ofString "times" : Str) = Str.ofString "did") = False := eq_false (by decide +kernel)
theorem w_times_did_b : ((Str.ofString "times" : Str) == Str.ofString "did") = false := by decide +kernel
theorem w_times_value : ((Str.ofString "times" : Str) = Str.ofString "value") = False := eq_false (by decide +kernel)
theorem w_times_value_b : ((Str.ofString "times" : Str) == Str.ofString "value") = false := by decide +kernel
theorem w_times_head : ((Str.ofString "times" : Str) = Str.ofString "head") = False := eq_false (by decide +kernel)
theorem w_times_head_b : ((Str.ofString "times" : Str) == Str.ofString "head") = false := by decide +kernel
theorem w_value_wrote : ((Str.ofString "value" : Str) = Str.ofString "wrote") = False := eq_false (by decide +kernel)
theorem w_value_wrote_b : ((Str.ofString "value" : Str) == Str.ofString "wrote") = false := by decide +kernel
theorem w_value_many : ((Str.ofString "value" : Str) = Str.ofString "many") = False := eq_false (by decide +kernel)
theorem w_value_many_b : ((Str.ofString "value" : Str) == Str.ofString "many") = false := by decide +kernel
theorem w_value_among : ((Str.ofString "value" : Str) = Str.ofString "among") = False := eq_false (by decide +kernel)
theorem w_value_among_b : ((Str.ofString "value" : Str) == Str.ofString "among") = false := by decide +kernel
theorem w_value_did : ((Str.ofString "value" : Str) = Str.ofString "did") = False := eq_false (by decide +kernel)
theorem w_value_did_b : ((Str.ofString "value" : Str) == Str.ofString "did") = false := by decide +kernel
theorem w_value_times : ((Str.ofString "value" : Str) = Str.ofString "times") = False := eq_false (by decide +kernel)
theorem w_value_times_b : ((Str.ofString "value" : Str) == Str.ofString "times") = false := by decide +kernel
theorem w_value_head : ((Str.ofString "value" : Str) = Str.ofString "head") = False := eq_false (by decide +kernel)
theorem w_value_head_b : ((Str.ofString "value" : Str) == Str.ofString "head") = false := by decide +kernel
theorem w_head_wrote : ((Str.ofString "head" : Str) = Str.ofString "wrote") = False := eq_false (by decide +kernel)
theorem w_head_wrote_b : ((Str.ofString "head" : Str) == Str.ofString "wrote") = false := by decide +kernel
theorem w_head_many : ((Str.ofString "head" : Str) = Str.ofString "many") = False := eq_false (by decide +kernel)
theorem w_head_many_b : ((Str.ofString "head" : Str) == Str.ofString "many") = false := by decide +kernel
theorem w_head_among : ((Str.ofString "head" : Str) = Str.ofString "among") = False := eq_false (by decide +kernel)
theorem w_head_among_b : ((Str.ofString "head" : Str) == Str.ofString "among") = false := by decide +kernel
theorem w_head_did : ((Str.ofString "head" : Str) = Str.ofString "did") = False := eq_false (by decide +kernel)
theorem w_head_did_b : ((Str.ofString "head" : Str) == Str.ofString "did") = false := by decide +kernel
theorem w_head_times : ((Str.ofString "head" : Str) = Str.ofString "times") = False := eq_false (by decide +kernel)
theorem w_head_times_b : ((Str.ofString "head" : Str) == Str.ofString "times") = false := by decide +kernel
theorem w_head_value : ((Str.ofString "head" : Str) = Str.ofString "value") = False := eq_false (by decide +kernel)
theorem w_head_value_b : ((Str.ofString "head" : Str) == Str.ofString "value") = false := by decide +kernel
end DL
namespace DL
open PySem L2
theorem cut_take {α : Type} (xs : List α) {v : Int} (h : 0 ≤ v) : cutD xs none (some v) = xs.take v.toNat := by
  unfold cutD
  have e : v = ((v.toNat : Nat) : Int) := by omega
  rw [HT.sIx_none, e, HT.sIx_nat, List.drop_zero, Nat.sub_zero, Int.toNat_natCast]
  by_cases hl : v.toNat ≤ xs.length
  · rw [Nat.min_eq_left hl]
  · rw [Nat.min_eq_right (by omega), List.take_length, List.take_of_length_le (by omega)]
theorem cut_drop {α : Type} (xs : List α) {v : Int} (h : 0 ≤ v) : cutD xs (some v) none = xs.drop v.toNat := by
  unfold cutD
  have e : v = ((v.toNat : Nat) : Int) := by omega
  rw [HT.sIx_none, e, HT.sIx_nat, Int.toNat_natCast]
  by_cases hl : v.toNat ≤ xs.length
  · rw [Nat.min_eq_left hl, List.take_of_length_le (by rw [List.length_drop]; omega)]
  · rw [Nat.min_eq_right (by omega), Nat.sub_self, List.take_zero, List.drop_of_length_le (by omega)]
end DL
namespace DL
open PySem L2
/-- a comprehension over written data, by its turns -/
theorem lc_byT {α : Type} {F : TF (List D)} {g : TGD} {A : TF Bool} {Fe : TF D} {vs : List Nat} {ρ : Env} {μ : Mu} {Q : D → Mu → Prop} (l : List α) (f : α → D) (S : α → Option D → Prop) (hF : ∀ R : List D → Mu → Prop, R (l.map f) μ → F ρ μ R)
    (ht : ∀ a ∈ l, TurnS g A Fe (wipeE ρ vs) μ (fun _ r => S a r) (f a)) (hQ : ∀ rs, All2 S l rs → Q (.lst (rs.filterMap id)) μ) : dLc F g A Fe vs ρ μ Q := by
  refine hF _ (fun p hp => ⟨fun i μ' => ∃ rs, All2 S (l.take i) rs ∧ (rs.filterMap id).length ≤ i ∧ μ' = μ.put p (.lst (rs.filterMap id)), ⟨[], by simpa using All2.nil, by simp, rfl⟩, fun i d μ' hd ⟨rs, h1, h2, h3⟩ => ?_, fun μ' ⟨rs, h1, h2, h3⟩ => ?_⟩)
  · subst h3
    rw [List.getElem?_map] at hd
    cases ha : l[i]? with
    | none => rw [ha] at hd; cases hd
    | some a =>
      rw [ha] at hd; cases hd
      refine ht a (List.mem_of_getElem? ha) p _ hp _ fun r hr => ?_
      have e : l.take (i + 1) = l.take i ++ [a] := by rw [List.take_add_one, ha]; rfl
      cases r with
      | none => exact ⟨rs ++ [none], by rw [e]; exact h1.snoc hr, by simp [List.filterMap_append]; omega, by simp [List.filterMap_append]⟩
      | some y => exact ⟨_, Mu.put_same, h2, rs ++ [some y], by rw [e]; exact h1.snoc hr, by simp [List.filterMap_append]; omega, by rw [Mu.put_put]; simp [List.filterMap_append]⟩
  · subst h3
    refine ⟨_, Mu.put_same, ?_⟩
    rw [Mu.put_del hp]
    exact hQ rs (by rw [List.length_map, List.take_length] at h1; exact h1)
theorem lc_mapT {α : Type} {F : TF (List D)} {g : TGD} {A : TF Bool} {Fe : TF D} {vs : List Nat} {ρ : Env} {μ : Mu} {Q : D → Mu → Prop} (l : List α) (f h : α → D) (hF : ∀ R : List D → Mu → Prop, R (l.map f) μ → F ρ μ R)
    (ht : ∀ a ∈ l, TurnS g A Fe (wipeE ρ vs) μ (fun _ r => r = some (h a)) (f a)) (hQ : Q (.lst (l.map h)) μ) : dLc F g A Fe vs ρ μ Q :=
  lc_byT l f (fun a r => r = some (h a)) hF ht fun rs hr => by
    rw [all2_fun hr, List.filterMap_map]
    have : (id ∘ fun d => some (h d)) = fun d => some (h d) := rfl
    rw [this, List.filterMap_eq_map']
    exact hQ
theorem lc_fmapT {α : Type} {F : TF (List D)} {g : TGD} {A : TF Bool} {Fe : TF D} {vs : List Nat} {ρ : Env} {μ : Mu} {Q : D → Mu → Prop} (l : List α) (f : α → D) (h : α → Option D) (hF : ∀ R : List D → Mu → Prop, R (l.map f) μ → F ρ μ R)
    (ht : ∀ a ∈ l, TurnS g A Fe (wipeE ρ vs) μ (fun _ r => r = h a) (f a)) (hQ : Q (.lst (l.filterMap h)) μ) : dLc F g A Fe vs ρ μ Q :=
  lc_byT l f (fun a r => r = h a) hF ht fun rs hr => by
    rw [all2_fun hr, List.filterMap_map]
    exact hQ
/-- a loop over written data, the invariant upon the part taken -/
theorem for_map {α : Type} {F : TF (List D)} {g : TGD} {body : TSD} {E : EndsD} {ρ : Env} {μ : Mu} (f : α → D) (l : List α) (I : List α → Env → Mu → Prop) (hF : ∀ R : List D → Mu → Prop, R (l.map f) μ → F ρ μ R) (h0 : I [] ρ μ)
    (ht : ∀ (pre : List α) (a : α) (post : List α) ρ' μ', l = pre ++ a :: post → I pre ρ' μ' → g (f a) ρ' fun ρ2 => body { E with nx := I (pre ++ [a]), ct := I (pre ++ [a]), bk := E.nx } ρ2 μ') (hd : ∀ ρ' μ', I l ρ' μ' → E.nx ρ' μ') : sFor F g body E ρ μ := by
  refine hF _ ⟨fun i ρ' μ' => I (l.take i) ρ' μ', by simpa using h0, fun i d ρ' μ' hi hI => ?_, fun ρ' μ' hI => hd ρ' μ' (by have h : I (l.take (l.map f).length) ρ' μ' := hI; rw [List.length_map, List.take_length] at h; exact h)⟩
  rw [List.getElem?_map] at hi
  cases ha : l[i]? with
  | none => rw [ha] at hi; cases hi
  | some a =>
    rw [ha] at hi; cases hi
    have e : l.take (i + 1) = l.take i ++ [a] := by rw [List.take_add_one, ha]; rfl
    have hl := (List.getElem?_eq_some_iff.mp ha).1
    have e2 : l = l.take i ++ a :: l.drop (i + 1) := by
      have h1 := (List.getElem?_eq_some_iff.mp ha).2
      have := List.take_append_drop i l
      rw [List.drop_eq_getElem_cons hl, h1] at this
      exact this.symm
    show g (f a) ρ' fun ρ2 => body { E with nx := I (l.take (i + 1)), ct := I (l.take (i + 1)), bk := E.nx } ρ2 μ'
    rw [e]
    exact ht (l.take i) a (l.drop (i + 1)) ρ' μ' e2 hI
theorem rng_map (lo : Int) (n : Nat) : rngD lo n = (List.range n).map fun i => D.int (lo + (i : Nat)) := rfl
end DL
namespace DL
open PySem L2
/-- objects that are not asked for any more -/
def Sub (μ μ' : Mu) : Prop := ∀ a o, μ a = some o → μ' a = some o
theorem Sub.put {μ : Mu} {p : Addr} {o : MO} (h : μ p = none) : Sub μ (μ.put p o) := fun a u e => by rw [Mu.put_ne (Mu.ne_of e h)]; exact e
theorem Sub.hide {μ μ' : Mu} {H : Hp} (s : Sub μ μ') : Same (hide H μ') (DL.hide H μ) := fun b u e => by
  obtain ⟨h1, h2⟩ := hide_some.mp e
  refine hide_some.mpr ⟨?_, h2⟩
  cases q : μ b with
  | none => rfl
  | some o => rw [s b o q] at h1; cases h1
theorem Nx.forget {K : PySem.W.Frag} {H H' : Hp} {μ μ' μ2 : Mu} (n : Nx K H μ H' μ') (s : Sub μ2 μ') : Nx K H μ H' μ2 := ⟨n.ext.trans s.hide, fun a o h => (n.wd a o (s a o h)).mono s.hide⟩
theorem Fun.okDf {P : Program} {w : World} {K : PySem.W.Frag} {mg : Str → Option Value} {base : Heap} {x qual : Str} {st : Stmt} {f : Addr} {fd : FuncData} {N ps : List Str} {k : Nat} {C : CT} {G : TSD} (F : L2.Fun K x qual st f fd) (S : FnScope N ps (defScope st))
    (body : ∀ (cdv : Value) (A : Around) (outer : List PySem.Env) (s : Shared) (H : Hp) (E : XK), Room k (A.deeper (PyProof.Rows.envOfC qual (defScope st) s.heap.objs.size f cdv)) → DSs (cxOf CX0 P w K mg base N qual (defScope st) f cdv A outer s H E).nox (defBody st) G)
    (len : ∀ ds μ Q, C ds μ Q → ds.length = ps.length)
    (h : ∀ ds μ Q, C ds μ Q → G { nx := fun _ μ' => ∃ μ2, Sub μ2 μ' ∧ Q .non μ2, rt := fun d μ' => ∃ μ2, Sub μ2 μ' ∧ Q d μ2 } (startD N ds) μ) : FnOk P w K mg base CX0 (k + 1) f fd ps (spD K C) := by
  refine F.ok S (fun vs H Q E ⟨ds, μ, Qd, r, _, c, _⟩ => r.length.trans (len ds μ Qd c)) fun cdv A outer s H vs Q E hr ⟨ds, μ, Qd, r, w', c, kk⟩ => ?_
  refine ⟨_, body cdv A outer s H E hr, startD N ds, μ, _, ⟨renv_start r, w'⟩, h ds μ Qd c, ⟨fun ρ' μ' σ' H' ⟨μ2, sb, g⟩ s' n => kk .non μ2 .non H' g (n.forget sb) .non, fun d μ' v H' ⟨μ2, sb, g⟩ n r' => kk d μ2 v H' g (n.forget sb) (r'.mono sb.hide), fun _ _ _ _ z => z.elim, fun _ _ _ _ z => z.elim⟩⟩
end DL
end

-- part DL9
section
namespace DL
open PySem L2
def bufD (ns : List Int) (i j k : Int) : List D := [.lst (ns.map .int), .int i, .int j, .int k]
def BufOk (ns : List Int) (i j k : Int) : Prop := ns.length ≤ 63 ∧ 0 ≤ i ∧ 0 ≤ j ∧ 0 ≤ k ∧ k < 2147483647
theorem hide_over {H : Hp} {μ : Mu} {a : Addr} {o m : MO} (h : μ a = some o) : hide H (μ.put a m) = hide H μ := by
  funext b; unfold hide Mu.put
  by_cases e : b = a
  · subst e; simp [h]
  · simp [e]
theorem rpi_of {K : PySem.W.Frag} {G : Hp} : ∀ ns : List Int, RpAll K G (ns.map V.int) (ns.map D.int)
  | [] => .nil
  | n :: ns => .cons (.int n) (rpi_of ns)
theorem rpi_inv {K : PySem.W.Frag} {G : Hp} : ∀ {ns : List Int} {vs : List V}, RpAll K G vs (ns.map D.int) → vs = ns.map V.int
  | [], _, .nil => rfl
  | n :: ns, _, .cons (.int _) r => by rw [rpi_inv r]; rfl
theorem draw_open {K : PySem.W.Frag} {H : Hp} {μ : Mu} {a : Addr} (w : Wd K H μ) (h : μ a = some .draw) : ∃ ns i j k, BufOk ns i j k ∧ Wd K H (μ.put a (.lst (bufD ns i j k))) := by
  obtain ⟨b, ns, i, j, k, h1, h2, h3, h4⟩ := w a _ h
  refine ⟨ns, i, j, k, ⟨h3, h4⟩, fun c o hc => ?_⟩
  rw [hide_over h]
  by_cases e : c = a
  · subst e
    rw [Mu.put_same] at hc
    cases hc
    exact ⟨_, h1, .cons (.lst h2 (rpi_of ns) (by rw [List.length_map]; exact sz_small (by omega))) (.cons (.int _) (.cons (.int _) (.cons (.int _) .nil))), (by decide : 4 ≤ sizeLine)⟩
  · rw [Mu.put_ne e] at hc
    exact w c o hc
theorem draw_shut {K : PySem.W.Frag} {H : Hp} {μ : Mu} {a : Addr} {ns : List Int} {i j k : Int} (w : Wd K H μ) (h : μ a = some (.lst (bufD ns i j k))) (b : BufOk ns i j k) : Wd K H (μ.put a .draw) := by
  obtain ⟨xs, h1, h2, h3⟩ := w a _ h
  intro c o hc
  rw [hide_over h]
  by_cases e : c = a
  · subst e
    rw [Mu.put_same] at hc
    cases hc
    unfold bufD at h2
    cases h2 with
    | cons r1 r =>
      cases r with
      | cons r2 r =>
        cases r with
        | cons r3 r =>
          cases r with
          | cons r4 r =>
            cases r
            cases r2; cases r3; cases r4
            cases r1 with
            | lst g1 g2 g3 => exact ⟨_, ns, i, j, k, h1, by rw [rpi_inv g2] at g1; exact g1, b⟩
  · rw [Mu.put_ne e] at hc
    exact w c o hc
theorem buf_ix {μ : Mu} {p : Addr} {ds : List D} {i : Int} {P : D → Prop} (h : μ p = some (.lst ds)) : (∃ es d, μ p = some (MO.lst es) ∧ atI es i = some d ∧ P d) = ∃ d, atI ds i = some d ∧ P d := by
  rw [h]
  exact propext ⟨fun ⟨es, d, e, a, b⟩ => by cases e; exact ⟨d, a, b⟩, fun ⟨d, a, b⟩ => ⟨ds, d, rfl, a, b⟩⟩
theorem abs_nn (i : Int) : 0 ≤ absI i := by unfold absI; split <;> omega
/-- the wish of a def that reads a drawer, by its cells -/
def C0_next : CT := fun ds μ Q => match ds with
  | [.ptr dr, .int many] => ∃ ns i j k, μ dr = some (.lst (bufD ns i j k)) ∧ BufOk ns i j k ∧ 0 < many ∧ many < 1073741824 ∧ ∀ (r : Int) (i' j' k' : Int), 0 ≤ r → r < many → BufOk ns i' j' k' → Q (.int r) (μ.put dr (.lst (bufD ns i' j' k')))
  | _ => False
def C_next : CT := fun ds μ Q => match ds with
  | [.ptr dr, .int many] => μ dr = some .draw ∧ 0 < many ∧ many < 1073741824 ∧ ∀ r : Int, 0 ≤ r → r < many → Q (.int r) μ
  | _ => False
theorem next_imp {K : PySem.W.Frag} {vs : List V} {H : Hp} {Q : VK} {E : XK} (h : spD K C_next vs H Q E) : spD K C0_next vs H Q E := by
  obtain ⟨ds, μ, Qd, r, w, c, kk⟩ := h
  unfold C_next at c
  split at c
  · rename_i ds' dr many
    obtain ⟨h1, h2, h3, h4⟩ := c
    obtain ⟨ns, i, j, k, hb, w2⟩ := draw_open w h1
    refine ⟨_, _, fun d μ' => ∃ (r : Int) (i' j' k' : Int), d = .int r ∧ 0 ≤ r ∧ r < many ∧ BufOk ns i' j' k' ∧ μ' = (μ.put dr (.lst (bufD ns i j k))).put dr (.lst (bufD ns i' j' k')), by rw [hide_over h1]; exact r, w2, ?_, ?_⟩
    · exact ⟨ns, i, j, k, Mu.put_same, hb, h2, h3, fun r i' j' k' h0 hm hb' => ⟨r, i', j', k', rfl, h0, hm, hb', rfl⟩⟩
    · rintro d μ' v H' ⟨r', i', j', k', rfl, h0, hm, hb', rfl⟩ n rv
      have w3 := draw_shut n.wd Mu.put_same hb'
      have e : ((((μ.put dr (.lst (bufD ns i j k))).put dr (.lst (bufD ns i' j' k'))).put dr .draw) : Mu) = μ := by
        rw [Mu.put_put, Mu.put_put]
        funext b; unfold Mu.put; split
        · rename_i e; subst e; exact h1.symm
        · rfl
      have e2 : hide H' μ = hide H' ((μ.put dr (.lst (bufD ns i j k))).put dr (.lst (bufD ns i' j' k'))) := by rw [Mu.put_put, hide_over h1]
      rw [e] at w3
      refine kk _ μ v H' (h4 r' h0 hm) ⟨?_, w3⟩ ?_
      · have := n.ext
        rw [hide_over h1] at this
        rw [e2]
        exact this
      · cases rv; exact .int _
  · exact c.elim
def C0_draw : CT := fun ds μ Q => match ds with
  | [.scr ns] => ns.length ≤ 63 ∧ ∀ p, μ p = none → Q (.ptr p) (μ.put p (.lst (bufD ns 0 0 17)))
  | _ => False
def C_draw : CT := fun ds μ Q => match ds with
  | [.scr ns] => ns.length ≤ 63 ∧ ∀ p, μ p = none → Q (.ptr p) (μ.put p .draw)
  | _ => False
theorem draw_imp {K : PySem.W.Frag} {vs : List V} {H : Hp} {Q : VK} {E : XK} (h : spD K C_draw vs H Q E) : spD K C0_draw vs H Q E := by
  obtain ⟨ds, μ, Qd, r, w, c, kk⟩ := h
  unfold C_draw at c
  split at c
  · rename_i ds' ns
    obtain ⟨h1, h4⟩ := c
    refine ⟨_, _, fun d μ' => ∃ p, μ p = none ∧ d = .ptr p ∧ μ' = μ.put p (.lst (bufD ns 0 0 17)), r, w, ⟨h1, fun p hp => ⟨p, hp, rfl, rfl⟩⟩, ?_⟩
    rintro d μ' v H' ⟨p, hp, rfl, rfl⟩ n rv
    have w3 := draw_shut n.wd Mu.put_same ⟨h1, by omega, by omega, by omega, by omega⟩
    rw [Mu.put_put] at w3
    have e2 : hide H' (μ.put p .draw) = hide H' (μ.put p (.lst (bufD ns 0 0 17))) := by
      have := hide_over (H := H') (m := .draw) (Mu.put_same (μ := μ) (a := p) (o := .lst (bufD ns 0 0 17)))
      rw [Mu.put_put] at this
      exact this
    refine kk _ _ v H' (h4 p hp) ⟨?_, w3⟩ ?_
    · rw [e2]; exact n.ext
    · cases rv; exact .ptr _
  · exact c.elim
end DL
end

-- part K43H
section
namespace K43
open PySem L2 DL
def topS (i : Nat) : Stmt := PySem.Challenge.pw_suresnap_k43_histories_are_asked.main.body.getD i (.Pass ⟨0, 0, 0, 0⟩)
abbrev s__law_head : Stmt := topS 25
theorem sc__law_head : FnScope ["news", "found", "piece"] ["news"] (defScope s__law_head) := ⟨rfl, rfl, rfl, by decide +kernel, rfl, by decide +kernel, by decide +kernel⟩
abbrev s__law_holds : Stmt := topS 26
theorem sc__law_holds : FnScope ["shelf", "table", "piece", "written", "k", "commit", "key"] ["shelf", "table", "piece"] (defScope s__law_holds) := ⟨rfl, rfl, rfl, by decide +kernel, rfl, by decide +kernel, by decide +kernel⟩
abbrev s__law_keys : Stmt := topS 31
theorem sc__law_keys : FnScope ["history", "pair", "commit"] ["history"] (defScope s__law_keys) := ⟨rfl, rfl, rfl, by decide +kernel, rfl, by decide +kernel, by decide +kernel⟩
abbrev s__law_values_clash : Stmt := topS 27
theorem sc__law_values_clash : FnScope ["news", "piece", "other"] ["news"] (defScope s__law_values_clash) := ⟨rfl, rfl, rfl, by decide +kernel, rfl, by decide +kernel, by decide +kernel⟩
abbrev s__law_written : Stmt := topS 32
theorem sc__law_written : FnScope ["history", "key", "found", "commit", "pair"] ["history", "key"] (defScope s__law_written) := ⟨rfl, rfl, rfl, by decide +kernel, rfl, by decide +kernel, by decide +kernel⟩
abbrev s__law_agrees : Stmt := topS 33
theorem sc__law_agrees : FnScope ["shelf", "history", "news", "table", "piece", "written"] ["shelf", "history", "news"] (defScope s__law_agrees) := ⟨rfl, rfl, rfl, by decide +kernel, rfl, by decide +kernel, by decide +kernel⟩
abbrev s__law_commits : Stmt := topS 21
theorem sc__law_commits : FnScope ["shelf", "found", "mark", "k"] ["shelf"] (defScope s__law_commits) := ⟨rfl, rfl, rfl, by decide +kernel, rfl, by decide +kernel, by decide +kernel⟩
abbrev s__law_next : Stmt := topS 18
theorem sc__law_next : FnScope ["draw", "many", "found", "cell"] ["draw", "many"] (defScope s__law_next) := ⟨rfl, rfl, rfl, by decide +kernel, rfl, by decide +kernel, by decide +kernel⟩
abbrev s__law_bent : Stmt := topS 23
theorem sc__law_bent : FnScope ["draw", "shelf", "piece", "form", "commits"] ["draw", "shelf", "piece"] (defScope s__law_bent) := ⟨rfl, rfl, rfl, by decide +kernel, rfl, by decide +kernel, by decide +kernel⟩
abbrev s__law_draw : Stmt := topS 17
theorem sc__law_draw : FnScope ["script"] ["script"] (defScope s__law_draw) := ⟨rfl, rfl, rfl, by decide +kernel, rfl, by decide +kernel, by decide +kernel⟩
abbrev s__law_history : Stmt := topS 30
theorem sc__law_history : FnScope ["draw", "shelf", "many", "commits", "history", "k", "commit", "key"] ["draw", "shelf", "many"] (defScope s__law_history) := ⟨rfl, rfl, rfl, by decide +kernel, rfl, by decide +kernel, by decide +kernel⟩
abbrev s__law_same : Stmt := topS 19
theorem sc__law_same : FnScope ["actual", "due", "k"] ["actual", "due"] (defScope s__law_same) := ⟨rfl, rfl, rfl, by decide +kernel, rfl, by decide +kernel, by decide +kernel⟩
abbrev s__law_shelf : Stmt := topS 20
theorem sc__law_shelf : FnScope ["draw"] ["draw"] (defScope s__law_shelf) := ⟨rfl, rfl, rfl, by decide +kernel, rfl, by decide +kernel, by decide +kernel⟩
abbrev s__law_told : Stmt := topS 22
theorem sc__law_told : FnScope ["draw", "shelf", "table", "most", "form", "key", "version", "commit", "more", "other", "k"] ["draw", "shelf", "table", "most"] (defScope s__law_told) := ⟨rfl, rfl, rfl, by decide +kernel, rfl, by decide +kernel, by decide +kernel⟩
abbrev s__law_true : Stmt := topS 34
theorem sc__law_true : FnScope ["draw", "shelf", "history", "piece", "written"] ["draw", "shelf", "history"] (defScope s__law_true) := ⟨rfl, rfl, rfl, by decide +kernel, rfl, by decide +kernel, by decide +kernel⟩
abbrev s_version_of : Stmt := topS 1
theorem sc_version_of : FnScope ["piece"] ["piece"] (defScope s_version_of) := ⟨rfl, rfl, rfl, by decide +kernel, rfl, by decide +kernel, by decide +kernel⟩
abbrev s_head_of : Stmt := topS 8
theorem sc_head_of : FnScope ["news", "versions", "piece", "version"] ["news"] (defScope s_head_of) := ⟨rfl, rfl, rfl, by decide +kernel, rfl, by decide +kernel, by decide +kernel⟩
abbrev s_is_commit : Stmt := topS 9
theorem sc_is_commit : FnScope ["shelf", "commit", "keys", "key", "_"] ["shelf", "commit"] (defScope s_is_commit) := ⟨rfl, rfl, rfl, by decide +kernel, rfl, by decide +kernel, by decide +kernel⟩
abbrev s_keys_written : Stmt := topS 7
theorem sc_keys_written : FnScope ["history", "version", "key", "_"] ["history", "version"] (defScope s_keys_written) := ⟨rfl, rfl, rfl, by decide +kernel, rfl, by decide +kernel, by decide +kernel⟩
abbrev s_commit_is_true : Stmt := topS 13
theorem sc_commit_is_true : FnScope ["history", "piece", "word", "version", "told", "keys", "key"] ["history", "piece"] (defScope s_commit_is_true) := ⟨rfl, rfl, rfl, by decide +kernel, rfl, by decide +kernel, by decide +kernel⟩
abbrev s_shelf_keys : Stmt := topS 2
theorem sc_shelf_keys : FnScope ["piece"] ["piece"] (defScope s_shelf_keys) := ⟨rfl, rfl, rfl, by decide +kernel, rfl, by decide +kernel, by decide +kernel⟩
abbrev s_values_written : Stmt := topS 4
theorem sc_values_written : FnScope ["history", "key", "version", "commit", "written", "value"] ["history", "key", "version"] (defScope s_values_written) := ⟨rfl, rfl, rfl, by decide +kernel, rfl, by decide +kernel, by decide +kernel⟩
abbrev s_times_in : Stmt := topS 5
theorem sc_times_in : FnScope ["history", "key", "version"] ["history", "key", "version"] (defScope s_times_in) := ⟨rfl, rfl, rfl, by decide +kernel, rfl, by decide +kernel, by decide +kernel⟩
abbrev s_value_is_true : Stmt := topS 12
theorem sc_value_is_true : FnScope ["history", "piece", "_", "key", "number", "value", "values"] ["history", "piece"] (defScope s_value_is_true) := ⟨rfl, rfl, rfl, by decide +kernel, rfl, by decide +kernel, by decide +kernel⟩
abbrev s_is_true : Stmt := topS 14
theorem sc_is_true : FnScope ["shelf", "history", "piece", "key", "_", "version", "number"] ["shelf", "history", "piece"] (defScope s_is_true) := ⟨rfl, rfl, rfl, by decide +kernel, rfl, by decide +kernel, by decide +kernel⟩
abbrev s_differ : Stmt := topS 10
theorem sc_differ : FnScope ["told", "first", "thing", "what"] ["told"] (defScope s_differ) := ⟨rfl, rfl, rfl, by decide +kernel, rfl, by decide +kernel, by decide +kernel⟩
abbrev s_tells_two_values : Stmt := topS 11
theorem sc_tells_two_values : FnScope ["news", "piece"] ["news"] (defScope s_tells_two_values) := ⟨rfl, rfl, rfl, by decide +kernel, rfl, by decide +kernel, by decide +kernel⟩
abbrev s_agrees : Stmt := topS 15
theorem sc_agrees : FnScope ["shelf", "history", "news", "commit", "piece"] ["shelf", "history", "news"] (defScope s_agrees) := ⟨rfl, rfl, rfl, by decide +kernel, rfl, by decide +kernel, by decide +kernel⟩
abbrev s_value_in : Stmt := topS 6
theorem sc_value_in : FnScope ["history", "key", "version", "values"] ["history", "key", "version"] (defScope s_value_in) := ⟨rfl, rfl, rfl, by decide +kernel, rfl, by decide +kernel, by decide +kernel⟩
abbrev s_law : Stmt := topS 35
theorem sc_law : FnScope ["script", "draw", "turn", "shelf", "history", "key", "written", "version", "times", "news", "k", "piece", "at", "commit", "wrong"] ["script"] (defScope s_law) := ⟨rfl, rfl, rfl, by decide +kernel, rfl, by decide +kernel, by decide +kernel⟩
structure Tx (K : PySem.W.Frag) (mg : Str → Option Value) where
  a__law_head : Addr
  d__law_head : FuncData
  F__law_head : L2.Fun K "_law_head" "_law_head" s__law_head a__law_head d__law_head
  m__law_head : mg "_law_head" = some (.ref a__law_head)
  v__law_head : Binds K d__law_head ["news"] []
  k__law_head : PySem.W.keepIn K (.ref a__law_head) = true
  a__law_holds : Addr
  d__law_holds : FuncData
  F__law_holds : L2.Fun K "_law_holds" "_law_holds" s__law_holds a__law_holds d__law_holds
  m__law_holds : mg "_law_holds" = some (.ref a__law_holds)
  v__law_holds : Binds K d__law_holds ["shelf", "table", "piece"] []
  k__law_holds : PySem.W.keepIn K (.ref a__law_holds) = true
  a__law_keys : Addr
  d__law_keys : FuncData
  F__law_keys : L2.Fun K "_law_keys" "_law_keys" s__law_keys a__law_keys d__law_keys
  m__law_keys : mg "_law_keys" = some (.ref a__law_keys)
  v__law_keys : Binds K d__law_keys ["history"] []
  k__law_keys : PySem.W.keepIn K (.ref a__law_keys) = true
  a__law_values_clash : Addr
  d__law_values_clash : FuncData
  F__law_values_clash : L2.Fun K "_law_values_clash" "_law_values_clash" s__law_values_clash a__law_values_clash d__law_values_clash
  m__law_values_clash : mg "_law_values_clash" = some (.ref a__law_values_clash)
  v__law_values_clash : Binds K d__law_values_clash ["news"] []
  k__law_values_clash : PySem.W.keepIn K (.ref a__law_values_clash) = true
  a__law_written : Addr
  d__law_written : FuncData
  F__law_written : L2.Fun K "_law_written" "_law_written" s__law_written a__law_written d__law_written
  m__law_written : mg "_law_written" = some (.ref a__law_written)
  v__law_written : Binds K d__law_written ["history", "key"] []
  k__law_written : PySem.W.keepIn K (.ref a__law_written) = true
  a__law_agrees : Addr
  d__law_agrees : FuncData
  F__law_agrees : L2.Fun K "_law_agrees" "_law_agrees" s__law_agrees a__law_agrees d__law_agrees
  m__law_agrees : mg "_law_agrees" = some (.ref a__law_agrees)
  v__law_agrees : Binds K d__law_agrees ["shelf", "history", "news"] []
  k__law_agrees : PySem.W.keepIn K (.ref a__law_agrees) = true
  a__law_commits : Addr
  d__law_commits : FuncData
  F__law_commits : L2.Fun K "_law_commits" "_law_commits" s__law_commits a__law_commits d__law_commits
  m__law_commits : mg "_law_commits" = some (.ref a__law_commits)
  v__law_commits : Binds K d__law_commits ["shelf"] []
  k__law_commits : PySem.W.keepIn K (.ref a__law_commits) = true
  a__law_next : Addr
  d__law_next : FuncData
  F__law_next : L2.Fun K "_law_next" "_law_next" s__law_next a__law_next d__law_next
  m__law_next : mg "_law_next" = some (.ref a__law_next)
  v__law_next : Binds K d__law_next ["draw", "many"] []
  k__law_next : PySem.W.keepIn K (.ref a__law_next) = true
  a__law_bent : Addr
  d__law_bent : FuncData
  F__law_bent : L2.Fun K "_law_bent" "_law_bent" s__law_bent a__law_bent d__law_bent
  m__law_bent : mg "_law_bent" = some (.ref a__law_bent)
  v__law_bent : Binds K d__law_bent ["draw", "shelf", "piece"] []
  k__law_bent : PySem.W.keepIn K (.ref a__law_bent) = true
  a__law_draw : Addr
  d__law_draw : FuncData
  F__law_draw : L2.Fun K "_law_draw" "_law_draw" s__law_draw a__law_draw d__law_draw
  m__law_draw : mg "_law_draw" = some (.ref a__law_draw)
  v__law_draw : Binds K d__law_draw ["script"] []
  k__law_draw : PySem.W.keepIn K (.ref a__law_draw) = true
  a__law_history : Addr
  d__law_history : FuncData
  F__law_history : L2.Fun K "_law_history" "_law_history" s__law_history a__law_history d__law_history
  m__law_history : mg "_law_history" = some (.ref a__law_history)
  v__law_history : Binds K d__law_history ["draw", "shelf", "many"] []
  k__law_history : PySem.W.keepIn K (.ref a__law_history) = true
  a__law_same : Addr
  d__law_same : FuncData
  F__law_same : L2.Fun K "_law_same" "_law_same" s__law_same a__law_same d__law_same
  m__law_same : mg "_law_same" = some (.ref a__law_same)
  v__law_same : Binds K d__law_same ["actual", "due"] []
  k__law_same : PySem.W.keepIn K (.ref a__law_same) = true
  a__law_shelf : Addr
  d__law_shelf : FuncData
  F__law_shelf : L2.Fun K "_law_shelf" "_law_shelf" s__law_shelf a__law_shelf d__law_shelf
  m__law_shelf : mg "_law_shelf" = some (.ref a__law_shelf)
  v__law_shelf : Binds K d__law_shelf ["draw"] []
  k__law_shelf : PySem.W.keepIn K (.ref a__law_shelf) = true
  a__law_told : Addr
  d__law_told : FuncData
  F__law_told : L2.Fun K "_law_told" "_law_told" s__law_told a__law_told d__law_told
  m__law_told : mg "_law_told" = some (.ref a__law_told)
  v__law_told : Binds K d__law_told ["draw", "shelf", "table", "most"] []
  k__law_told : PySem.W.keepIn K (.ref a__law_told) = true
  a__law_true : Addr
  d__law_true : FuncData
  F__law_true : L2.Fun K "_law_true" "_law_true" s__law_true a__law_true d__law_true
  m__law_true : mg "_law_true" = some (.ref a__law_true)
  v__law_true : Binds K d__law_true ["draw", "shelf", "history"] []
  k__law_true : PySem.W.keepIn K (.ref a__law_true) = true
  a_version_of : Addr
  d_version_of : FuncData
  F_version_of : L2.Fun K "version_of" "version_of" s_version_of a_version_of d_version_of
  m_version_of : mg "version_of" = some (.ref a_version_of)
  v_version_of : Binds K d_version_of ["piece"] []
  k_version_of : PySem.W.keepIn K (.ref a_version_of) = true
  a_head_of : Addr
  d_head_of : FuncData
  F_head_of : L2.Fun K "head_of" "head_of" s_head_of a_head_of d_head_of
  m_head_of : mg "head_of" = some (.ref a_head_of)
  v_head_of : Binds K d_head_of ["news"] []
  k_head_of : PySem.W.keepIn K (.ref a_head_of) = true
  a_is_commit : Addr
  d_is_commit : FuncData
  F_is_commit : L2.Fun K "is_commit" "is_commit" s_is_commit a_is_commit d_is_commit
  m_is_commit : mg "is_commit" = some (.ref a_is_commit)
  v_is_commit : Binds K d_is_commit ["shelf", "commit"] []
  k_is_commit : PySem.W.keepIn K (.ref a_is_commit) = true
  a_keys_written : Addr
  d_keys_written : FuncData
  F_keys_written : L2.Fun K "keys_written" "keys_written" s_keys_written a_keys_written d_keys_written
  m_keys_written : mg "keys_written" = some (.ref a_keys_written)
  v_keys_written : Binds K d_keys_written ["history", "version"] []
  k_keys_written : PySem.W.keepIn K (.ref a_keys_written) = true
  a_commit_is_true : Addr
  d_commit_is_true : FuncData
  F_commit_is_true : L2.Fun K "commit_is_true" "commit_is_true" s_commit_is_true a_commit_is_true d_commit_is_true
  m_commit_is_true : mg "commit_is_true" = some (.ref a_commit_is_true)
  v_commit_is_true : Binds K d_commit_is_true ["history", "piece"] []
  k_commit_is_true : PySem.W.keepIn K (.ref a_commit_is_true) = true
  a_shelf_keys : Addr
  d_shelf_keys : FuncData
  F_shelf_keys : L2.Fun K "shelf_keys" "shelf_keys" s_shelf_keys a_shelf_keys d_shelf_keys
  m_shelf_keys : mg "shelf_keys" = some (.ref a_shelf_keys)
  v_shelf_keys : Binds K d_shelf_keys ["piece"] []
  k_shelf_keys : PySem.W.keepIn K (.ref a_shelf_keys) = true
  a_values_written : Addr
  d_values_written : FuncData
  F_values_written : L2.Fun K "values_written" "values_written" s_values_written a_values_written d_values_written
  m_values_written : mg "values_written" = some (.ref a_values_written)
  v_values_written : Binds K d_values_written ["history", "key", "version"] []
  k_values_written : PySem.W.keepIn K (.ref a_values_written) = true
  a_times_in : Addr
  d_times_in : FuncData
  F_times_in : L2.Fun K "times_in" "times_in" s_times_in a_times_in d_times_in
  m_times_in : mg "times_in" = some (.ref a_times_in)
  v_times_in : Binds K d_times_in ["history", "key", "version"] []
  k_times_in : PySem.W.keepIn K (.ref a_times_in) = true
  a_value_is_true : Addr
  d_value_is_true : FuncData
  F_value_is_true : L2.Fun K "value_is_true" "value_is_true" s_value_is_true a_value_is_true d_value_is_true
  m_value_is_true : mg "value_is_true" = some (.ref a_value_is_true)
  v_value_is_true : Binds K d_value_is_true ["history", "piece"] []
  k_value_is_true : PySem.W.keepIn K (.ref a_value_is_true) = true
  a_is_true : Addr
  d_is_true : FuncData
  F_is_true : L2.Fun K "is_true" "is_true" s_is_true a_is_true d_is_true
  m_is_true : mg "is_true" = some (.ref a_is_true)
  v_is_true : Binds K d_is_true ["shelf", "history", "piece"] []
  k_is_true : PySem.W.keepIn K (.ref a_is_true) = true
  a_differ : Addr
  d_differ : FuncData
  F_differ : L2.Fun K "differ" "differ" s_differ a_differ d_differ
  m_differ : mg "differ" = some (.ref a_differ)
  v_differ : Binds K d_differ ["told"] []
  k_differ : PySem.W.keepIn K (.ref a_differ) = true
  a_tells_two_values : Addr
  d_tells_two_values : FuncData
  F_tells_two_values : L2.Fun K "tells_two_values" "tells_two_values" s_tells_two_values a_tells_two_values d_tells_two_values
  m_tells_two_values : mg "tells_two_values" = some (.ref a_tells_two_values)
  v_tells_two_values : Binds K d_tells_two_values ["news"] []
  k_tells_two_values : PySem.W.keepIn K (.ref a_tells_two_values) = true
  a_agrees : Addr
  d_agrees : FuncData
  F_agrees : L2.Fun K "agrees" "agrees" s_agrees a_agrees d_agrees
  m_agrees : mg "agrees" = some (.ref a_agrees)
  v_agrees : Binds K d_agrees ["shelf", "history", "news"] []
  k_agrees : PySem.W.keepIn K (.ref a_agrees) = true
  a_value_in : Addr
  d_value_in : FuncData
  F_value_in : L2.Fun K "value_in" "value_in" s_value_in a_value_in d_value_in
  m_value_in : mg "value_in" = some (.ref a_value_in)
  v_value_in : Binds K d_value_in ["history", "key", "version"] []
  k_value_in : PySem.W.keepIn K (.ref a_value_in) = true
  a_law : Addr
  d_law : FuncData
  F_law : L2.Fun K "law" "law" s_law a_law d_law
  m_law : mg "law" = some (.ref a_law)
  v_law : Binds K d_law ["script"] []
  k_law : PySem.W.keepIn K (.ref a_law) = true
  b_abs : mg "abs" = none
  b_all : mg "all" = none
  b_bool : mg "bool" = none
  b_int : mg "int" = none
  b_isinstance : mg "isinstance" = none
  b_len : mg "len" = none
  b_list : mg "list" = none
  b_max : mg "max" = none
  b_range : mg "range" = none
  b_set : mg "set" = none
  b_sorted : mg "sorted" = none
  b_str : mg "str" = none
  b_tuple : mg "tuple" = none
/-! ### the data -/
abbrev Com := List (Str × Int)
inductive Pc where
  | wrote (v : Int) (ks : List Str) | many (v n : Int) | among (v : Int) (ks : List Str) | did (v : Int) (k : Str) | times (k : Str) (v n : Int) | value (k : Str) (n x : Int) | head (v : Int)
  deriving DecidableEq
def eKeys (ks : List Str) : D := .tup (ks.map .str)
def ePair (p : Str × Int) : D := .tup [.str p.1, .int p.2]
def eCom (c : Com) : D := .tup (c.map ePair)
def eHist (h : List Com) : D := .lst (h.map eCom)
def eTab (t : List (List Str)) : D := .tup (t.map eKeys)
def ePc : Pc → D
  | .wrote v ks => .tup [.str "wrote", .int v, eKeys ks]
  | .many v n => .tup [.str "many", .int v, .int n]
  | .among v ks => .tup [.str "among", .int v, eKeys ks]
  | .did v k => .tup [.str "did", .int v, .str k]
  | .times k v n => .tup [.str "times", .str k, .int v, .int n]
  | .value k n x => .tup [.str "value", .str k, .int n, .int x]
  | .head v => .tup [.str "head", .int v]
def eNews (ns : List Pc) : D := .lst (ns.map ePc)
def shelves : List (List Str) := [["a"], ["a", "b"], ["a", "ab"], ["a", "ab", "b"], ["b"]]
/-- versions and numbers of a piece are in their places -/
def okV (m : Int) : Pc → Prop
  | .wrote v _ => 1 ≤ v ∧ v ≤ m
  | .many v _ => 1 ≤ v ∧ v ≤ m
  | .among v _ => 1 ≤ v ∧ v ≤ m
  | .did v _ => 1 ≤ v ∧ v ≤ m
  | .times _ v _ => 0 ≤ v ∧ v ≤ m
  | .value _ n _ => 1 ≤ n
  | .head v => 0 ≤ v ∧ v ≤ m
def keysOf (c : Com) : List Str := c.map (·.1)
/-- a history over a shelf -/
def okH (sk : List Str) (hs : List Com) : Prop := ∀ c ∈ hs, c ≠ [] ∧ (keysOf c).Sublist sk
def verOf : Pc → Option Int
  | .wrote v _ => some v
  | .many v _ => some v
  | .among v _ => some v
  | .did v _ => some v
  | .times _ v _ => some v
  | .value _ _ _ => none
  | .head v => some v
/-! ### the law's own functions -/
def stepHead (f : Int) (p : Pc) : Int := match verOf p with
  | none => f
  | some v => maxI f v
def lawHead (ns : List Pc) : Int := ns.foldl stepHead 0
def written (hs : List Com) (k : Str) : List Int := hs.flatMap fun c => (c.filter fun p => p.1 = k).map (·.2)
def countK (tb : List (List Str)) (k : Str) (v : Int) : Nat := ((tb.take v.toNat).filter fun c => k ∈ c).length
def holds (sk : List Str) (tb : List (List Str)) : Pc → Bool
  | .wrote v ks => tb.getD (v - 1).toNat [] = ks
  | .many v n => ((tb.getD (v - 1).toNat []).length : Int) = n
  | .among v ks => (ks.all fun k => k ∈ sk) && ((tb.getD (v - 1).toNat []).all fun k => k ∈ ks)
  | .did v k => k ∈ tb.getD (v - 1).toNat []
  | .times k v n => (k ∈ sk) && ((countK tb k v : Int) = n)
  | .value _ _ _ => true
  | .head _ => true
def clash1 : Pc → Pc → Bool
  | .value k n x, .value k' n' x' => k' = k && n' = n && x' ≠ x
  | _, _ => false
def clash (ns : List Pc) : Bool := ns.any fun p => ns.any fun o => clash1 p o
def valOk (hs : List Com) : Pc → Bool
  | .value k n x => !(decide (n ≤ (written hs k).length) && decide ((written hs k).getD (n - 1).toNat 0 ≠ x))
  | _ => true
def lawAgrees (sk : List Str) (hs : List Com) (ns : List Pc) : Bool :=
  if lawHead ns ≠ hs.length ∨ clash ns = true then false else ns.all fun p => holds sk (hs.map keysOf) p && valOk hs p
/-! ### the program's functions -/
def headOf (ns : List Pc) : Int := maxFrom 0 (ns.filterMap verOf)
def isCom (sk : List Str) (c : Com) : Prop := c ≠ [] ∧ SortedS (keysOf c) ∧ ∀ k ∈ keysOf c, k ∈ sk
def keysW (hs : List Com) (v : Int) : List Str := if v < 1 then [] else keysOf (hs.getD (v - 1).toNat [])
def valTrue (hs : List Com) (k : Str) (n x : Int) : Bool := n < 1 || n > (written hs k).length || (written hs k).getD (n - 1).toNat 0 = x
def shelfKeys : Pc → List Str
  | .wrote _ ks => ks
  | .among _ ks => ks
  | .did _ k => [k]
  | .times k _ _ => [k]
  | _ => []
def isTrueP (hs : List Com) : Pc → Bool
  | .wrote v ks => keysW hs v = ks
  | .many v n => ((keysW hs v).length : Int) = n
  | .among v ks => (keysW hs v).all fun k => k ∈ ks
  | .did v k => k ∈ keysW hs v
  | .times k v n => ((written (hs.take v.toNat) k).length : Int) = n
  | .value k n x => valTrue hs k n x
  | .head v => v ≤ hs.length
def isTrueS (sk : List Str) (hs : List Com) (p : Pc) : Bool := (shelfKeys p).all (fun k => k ∈ sk) && isTrueP hs p
def bdH (hs : List Com) : Prop := hs.length ≤ 100 ∧ ∀ c ∈ hs, c.length ≤ 100
/-! ### wishes -/
def C__law_draw : CT := DL.C_draw
def C__law_next : CT := DL.C_next
def C__law_same : CT := fun ds μ Q => match ds with
  | [.int i, .int j] => i = j ∧ Q (.bl true) μ
  | [.bl i, .bl j] => i = j ∧ Q (.bl true) μ
  | _ => False
def C__law_shelf : CT := fun ds μ Q => match ds with
  | [.ptr dr] => μ dr = some .draw ∧ ∀ s ∈ shelves, Q (eKeys s) μ
  | _ => False
def C__law_commits : CT := fun ds μ Q => match ds with
  | [s] => ∃ sk ∈ shelves, s = eKeys sk ∧ ∀ cs : List (List Str), cs ≠ [] → cs.length ≤ 7 → (∀ c ∈ cs, c ≠ [] ∧ c.Sublist sk) → Q (.lst (cs.map eKeys)) μ
  | _ => False
def C__law_told : CT := fun ds μ Q => match ds with
  | [.ptr dr, s, t, .int m] => μ dr = some .draw ∧ ∃ sk ∈ shelves, ∃ tb : List (List Str), s = eKeys sk ∧ t = eTab tb ∧ m = tb.length ∧ 1 ≤ m ∧ m ≤ 4 ∧ (∀ c ∈ tb, c ≠ [] ∧ c.length ≤ 3) ∧ ∀ q, okV m q → Q (ePc q) μ
  | _ => False
def C__law_bent : CT := fun ds μ Q => match ds with
  | [.ptr dr, s, p] => μ dr = some .draw ∧ ∃ sk ∈ shelves, ∃ (q : Pc) (m : Int), s = eKeys sk ∧ p = ePc q ∧ okV m q ∧ ∀ q', okV m q' → Q (ePc q') μ
  | _ => False
def C__law_true : CT := fun ds μ Q => match ds with
  | [.ptr dr, s, h] => μ dr = some .draw ∧ ∃ sk ∈ shelves, ∃ hs : List Com, s = eKeys sk ∧ h = eHist hs ∧ okH sk hs ∧ 1 ≤ hs.length ∧ hs.length ≤ 4 ∧ ∀ q, okV hs.length q → Q (ePc q) μ
  | _ => False
def C__law_history : CT := fun ds μ Q => match ds with
  | [.ptr dr, s, .int m] => μ dr = some .draw ∧ ∃ sk ∈ shelves, s = eKeys sk ∧ 1 ≤ m ∧ m ≤ 4 ∧ ∀ hs : List Com, okH sk hs → (hs.length : Int) = m → Q (eHist hs) μ
  | _ => False
def C__law_head : CT := fun ds μ Q => match ds with
  | [n] => ∃ ns, n = eNews ns ∧ Q (.int (lawHead ns)) μ
  | _ => False
def C__law_holds : CT := fun ds μ Q => match ds with
  | [s, t, p] => ∃ (sk : List Str) (tb : List (List Str)) (q : Pc), s = eKeys sk ∧ t = eTab tb ∧ p = ePc q ∧ okV tb.length q ∧ tb.length ≤ 1000 ∧ Q (.bl (holds sk tb q)) μ
  | _ => False
def C__law_values_clash : CT := fun ds μ Q => match ds with
  | [n] => ∃ ns, n = eNews ns ∧ Q (.bl (clash ns)) μ
  | _ => False
def C__law_keys : CT := fun ds μ Q => match ds with
  | [h] => ∃ hs : List Com, h = eHist hs ∧ Q (eTab (hs.map keysOf)) μ
  | _ => False
def C__law_written : CT := fun ds μ Q => match ds with
  | [h, .str k] => ∃ hs : List Com, h = eHist hs ∧ bdH hs ∧ Q (.lst ((written hs k).map .int)) μ
  | _ => False
def C__law_agrees : CT := fun ds μ Q => match ds with
  | [s, h, n] => ∃ (sk : List Str) (hs : List Com) (ns : List Pc), s = eKeys sk ∧ h = eHist hs ∧ n = eNews ns ∧ bdH hs ∧ (∀ q ∈ ns, okV hs.length q) ∧ Q (.bl (lawAgrees sk hs ns)) μ
  | _ => False
def C_version_of : CT := fun ds μ Q => match ds with
  | [p] => ∃ q, p = ePc q ∧ Q (match verOf q with | none => .non | some v => .int v) μ
  | _ => False
def C_head_of : CT := fun ds μ Q => match ds with
  | [n] => ∃ ns, n = eNews ns ∧ Q (.int (headOf ns)) μ
  | _ => False
def C_is_commit : CT := fun ds μ Q => match ds with
  | [s, c] => ∃ (sk : List Str) (cm : Com), s = eKeys sk ∧ c = eCom cm ∧ cm.length < 64 ∧ ∀ b : Bool, (b = true ↔ isCom sk cm) → Q (.bl b) μ
  | _ => False
def C_keys_written : CT := fun ds μ Q => match ds with
  | [h, .int v] => ∃ hs : List Com, h = eHist hs ∧ v ≤ hs.length ∧ Q (eKeys (keysW hs v)) μ
  | _ => False
def C_shelf_keys : CT := fun ds μ Q => match ds with
  | [p] => ∃ q, p = ePc q ∧ Q (eKeys (shelfKeys q)) μ
  | _ => False
def C_values_written : CT := fun ds μ Q => match ds with
  | [h, .str k, .int v] => ∃ hs : List Com, h = eHist hs ∧ bdH hs ∧ 0 ≤ v ∧ Q (.lst ((written (hs.take v.toNat) k).map .int)) μ
  | _ => False
def C_times_in : CT := fun ds μ Q => match ds with
  | [h, .str k, .int v] => ∃ hs : List Com, h = eHist hs ∧ bdH hs ∧ 0 ≤ v ∧ Q (.int (written (hs.take v.toNat) k).length) μ
  | _ => False
def C_value_in : CT := fun ds μ Q => match ds with
  | [h, .str k, .int v] => ∃ hs : List Com, h = eHist hs ∧ bdH hs ∧ 0 ≤ v ∧ Q (.int ((written (hs.take v.toNat) k).getLastD 0)) μ
  | _ => False
def C_value_is_true : CT := fun ds μ Q => match ds with
  | [h, p] => ∃ (hs : List Com) (k : Str) (n x : Int), h = eHist hs ∧ bdH hs ∧ p = ePc (.value k n x) ∧ Q (.bl (valTrue hs k n x)) μ
  | _ => False
def isComP : Pc → Bool
  | .wrote _ _ => true
  | .many _ _ => true
  | .among _ _ => true
  | .did _ _ => true
  | _ => false
def C_commit_is_true : CT := fun ds μ Q => match ds with
  | [h, p] => ∃ (hs : List Com) (q : Pc), h = eHist hs ∧ p = ePc q ∧ isComP q = true ∧ okV hs.length q ∧ Q (.bl (isTrueP hs q)) μ
  | _ => False
def C_is_true : CT := fun ds μ Q => match ds with
  | [s, h, p] => ∃ (sk : List Str) (hs : List Com) (q : Pc), s = eKeys sk ∧ h = eHist hs ∧ bdH hs ∧ p = ePc q ∧ okV hs.length q ∧ Q (.bl (isTrueS sk hs q)) μ
  | _ => False
def eT1 (t : Str × Int × Int) : D := .tup [.tup [.str t.1, .int t.2.1], .int t.2.2]
def eTold (ts : List (Str × Int × Int)) : D := .lst (ts.map eT1)
def toldOf : Pc → Option D
  | .value k n x => some (eT1 (k, n, x))
  | _ => none
def C_differ : CT := fun ds μ Q => match ds with
  | [n] => ∃ ts, n = eTold ts ∧ ts.length ≤ 1000 ∧ ∀ b : Bool, (b = true ↔ ∃ k n x x', (k, n, x) ∈ ts ∧ (k, n, x') ∈ ts ∧ x' ≠ x) → Q (.bl b) μ
  | _ => False
def C_tells_two_values : CT := fun ds μ Q => match ds with
  | [n] => ∃ ns, n = eNews ns ∧ ns.length ≤ 1000 ∧ ∀ b : Bool, (b = true ↔ clash ns = true) → Q (.bl b) μ
  | _ => False
def C_agrees : CT := fun ds μ Q => match ds with
  | [s, h, n] => ∃ (sk : List Str) (hs : List Com) (ns : List Pc), s = eKeys sk ∧ h = eHist hs ∧ n = eNews ns ∧ hs.length ≤ 100 ∧ (∀ c ∈ hs, c.length < 64) ∧ ns.length ≤ 1000 ∧ (headOf ns = hs.length → ∀ q ∈ ns, okV hs.length q) ∧
      ∀ b : Bool, (b = true ↔ (∀ c ∈ hs, isCom sk c) ∧ headOf ns = hs.length ∧ clash ns = false ∧ ∀ q ∈ ns, isTrueS sk hs q = true) → Q (.bl b) μ
  | _ => False
def C_law : CT := fun ds μ Q => match ds with
  | [.scr ns] => ns.length ≤ 63 ∧ ∀ μ', Q (.bl true) μ'
  | _ => False
end K43
end

-- part PA
section
local macro_rules | `(tactic| walk_at "dl") => `(tactic| simp only [DL.sRet, DL.sSeq, DL.sSet, DL.sIf, DL.sNext, DL.sNever, DL.sDrop, DL.sAsg, DL.sRetN, DL.dVar, DL.dC, DL.dOp, DL.dTest, DL.dAnd, DL.dOr, DL.dNot, DL.dTru, DL.dAndV, DL.dOrV, DL.dNotV, DL.dIf, DL.aNil, DL.aCons, DL.dTup, DL.dLst, DL.dLstM, DL.dCall, DL.dFrz, DL.dB, DL.dNeg, DL.dSl, DL.oNone, DL.oSome, DL.dChn, DL.gN, DL.gT, DL.setAll,
  DL.ix_l, DL.ix_t, DL.ix_s, DL.ix_p, DL.add_i, DL.add_s, DL.add_l, DL.add_t, DL.mul_i, DL.mul_b, DL.sub_i, DL.fdiv_i, DL.mod_i, DL.pow_i, DL.shl_i, DL.shr_i, DL.and_i, DL.lt_i, DL.le_i, DL.gt_i, DL.ge_i, DL.le_s, DL.in_t, DL.in_l, DL.in_s, DL.len_l, DL.len_t, DL.len_s, DL.len_p, DL.list_l, DL.list_t, DL.list_s, DL.list_p, DL.tuple_l, DL.tuple_t, DL.int_i, DL.int_b, DL.abs_i, DL.max_i, DL.min_i, DL.all_l, DL.any_l, DL.isi_1, DL.isi_n, DL.sl_l, DL.sl_t, DL.sl_s, DL.neg_i, DL.isN_i, DL.notN_i, DL.eq_x, DL.ne_x,
  DL.w_wrote_many, DL.w_wrote_many_b, DL.w_wrote_among, DL.w_wrote_among_b, DL.w_wrote_did, DL.w_wrote_did_b, DL.w_wrote_times, DL.w_wrote_times_b, DL.w_wrote_value, DL.w_wrote_value_b, DL.w_wrote_head, DL.w_wrote_head_b, DL.w_many_wrote, DL.w_many_wrote_b, DL.w_many_among, DL.w_many_among_b, DL.w_many_did, DL.w_many_did_b, DL.w_many_times, DL.w_many_times_b, DL.w_many_value, DL.w_many_value_b, DL.w_many_head, DL.w_many_head_b, DL.w_among_wrote, DL.w_among_wrote_b, DL.w_among_many, DL.w_among_many_b, DL.w_among_did, DL.w_among_did_b, DL.w_among_times, DL.w_among_times_b, DL.w_among_value, DL.w_among_value_b, DL.w_among_head, DL.w_among_head_b, DL.w_did_wrote, DL.w_did_wrote_b, DL.w_did_many, DL.w_did_many_b, DL.w_did_among, DL.w_did_among_b, DL.w_did_times, DL.w_did_times_b, DL.w_did_value, DL.w_did_value_b, DL.w_did_head, DL.w_did_head_b, DL.w_times_wrote, DL.w_times_wrote_b, DL.w_times_many, DL.w_times_many_b, DL.w_times_among, DL.w_times_among_b, DL.w_times_did, DL.w_times_did_b, DL.w_times_value, DL.w_times_value_b, DL.w_times_head, DL.w_times_head_b, DL.w_value_wrote, DL.w_value_wrote_b, DL.w_value_many, DL.w_value_many_b, DL.w_value_among, DL.w_value_among_b, DL.w_value_did, DL.w_value_did_b, DL.w_value_times, DL.w_value_times_b, DL.w_value_head, DL.w_value_head_b, DL.w_head_wrote, DL.w_head_wrote_b, DL.w_head_many, DL.w_head_many_b, DL.w_head_among, DL.w_head_among_b, DL.w_head_did, DL.w_head_did_b, DL.w_head_times, DL.w_head_times_b, DL.w_head_value, DL.w_head_value_b,
  DL.q_ss, DL.q_ii, DL.q_bb, DL.q_nn, DL.q_tt, DL.q_ll, DL.q_si, DL.q_sn, DL.q_st, DL.q_sl, DL.q_is, DL.q_in, DL.q_it, DL.q_il, DL.q_ns, DL.q_ni, DL.q_nt, DL.q_nl, DL.q_ts, DL.q_ti, DL.q_tn, DL.q_tl, DL.q_ls, DL.q_li, DL.q_ln, DL.q_lt, DL.qs_nil, DL.qs_cons, DL.qs_nc, DL.qs_cn, DL.p_t16, DL.p_l16, DL.p_t15, DL.p_l15, DL.p_t14, DL.p_l14, DL.p_t13, DL.p_l13, DL.p_t12, DL.p_l12, DL.p_s, DL.p_i, DL.p_b, DL.p_n, DL.ps_nil, DL.ps_cons, DL.t_b, DL.t_i, DL.t_l, DL.t_t, DL.t_n, DL.n_n, DL.n_i, DL.n_s, DL.n_t, DL.n_l, DL.n_b, DL.f_s, DL.f_i,
  Bool.false_and, Bool.and_false, DL.z0, DL.z1, DL.z2, DL.z3, DL.z4, DL.z5, DL.z6, DL.z12,
  DL.startD, DL.sFrz, DL.sApp, DL.yesD, DL.lcTurn, DL.wipeE, DL.at0, DL.at1, DL.at2, DL.at3, DL.at4, List.map_cons, List.map_nil, List.replicate_succ, List.replicate_zero, List.length_cons, List.length_nil, List.cons_append, List.nil_append, List.set_cons_zero, List.set_cons_succ, List.getElem?_cons_zero, List.getElem?_cons_succ, Option.some.injEq, exists_eq_left, exists_eq_left', exists_eq', exists_eq, true_and, and_true, decide_eq_true_eq, if_true, if_false, Bool.false_eq_true, reduceIte, Nat.reduceAdd, Nat.reduceSub, DL.D.bl.injEq, DL.D.int.injEq, DL.D.str.injEq, DL.D.tup.injEq, DL.D.lst.injEq, DL.D.ptr.injEq, Bool.not_true, Bool.not_false, beq_self_eq_true, List.all_cons, List.all_nil, List.any_cons, List.any_nil, Bool.and_true, Bool.true_and, Bool.or_false, Bool.false_or, Bool.or_true, Bool.true_or, Bool.false_xor, Bool.true_xor, beq_iff_eq, Bool.not_eq_true, Int.reduceEq, Int.reduceBEq, and_self])

namespace K43
open PySem L2 DL
theorem set_n3 {a b c d x : D} : ([a, b, c, d] : List D).set 3 x = [a, b, c, x] := rfl
section
variable {P : Program} {w : World} {K : PySem.W.Frag} {mg : Str → Option Value} {base : Heap}
theorem ok0__law_next (T : Tx K mg) : FnOk P w K mg base CX0 1 T.a__law_next T.d__law_next ["draw", "many"] (spD K DL.C0_next) :=
  DL.Fun.okD (N := ["draw", "many", "found", "cell"]) T.F__law_next sc__law_next (fun cdv A outer s H E hr => 
      (dss_cons (ds_if (dt_cmp op_gtD od_gt (de_ix ix_seq od_ix (dv 0) de_int (fun _ _ => rfl)) de_int (nomark _)) 
      (dss_cons (ds_set 2 sc__law_next.nd (de_op op_mod od_mod (de_T call_int1 cd_int (by rfl) T.b_int (by decide +kernel) (da_cons (de_ix ix_seq od_ix (dv 0) de_int (fun _ _ => rfl)) da_nil)) (dv 1))) 
      (dss_cons (ds_setIx (dv 0) de_int (de_op op_fdiv od_fdiv (de_ix ix_seq od_ix (dv 0) de_int (fun _ _ => rfl)) (dv 1))) 
      (dss_one (ds_ret (dv 2))))) dss_nil) 
      (dss_cons (ds_if (dt_cmp op_ltD od_lt (de_ix ix_seq od_ix (dv 0) de_int (fun _ _ => rfl)) (de_B L2.call_len cd_len (by rfl) T.b_len (by decide +kernel) (da_cons (de_ix ix_seq od_ix (dv 0) de_int (fun _ _ => rfl)) da_nil)) (nomark _)) 
      (dss_cons (ds_set 3 sc__law_next.nd (de_B call_abs cd_abs (by rfl) T.b_abs (by decide +kernel) (da_cons (de_ix ix_seq od_ix (de_ix ix_seq od_ix (dv 0) de_int (fun _ _ => rfl)) (de_ix ix_seq od_ix (dv 0) de_int (fun _ _ => rfl)) (fun _ _ => rfl)) da_nil))) 
      (dss_cons (ds_setIx (dv 0) de_int (de_op op_addD od_add (de_ix ix_seq od_ix (dv 0) de_int (fun _ _ => rfl)) de_int)) 
      (dss_cons (ds_if (dt_cmp op_geD od_ge (dv 3) (de_op op_pow od_pow de_int de_int) (nomark _)) 
      (dss_cons (ds_setIx (dv 0) de_int (de_op op_fdiv od_fdiv (dv 3) (dv 1))) 
      (dss_one (ds_ret (de_op op_mod od_mod (de_T call_int1 cd_int (by rfl) T.b_int (by decide +kernel) (da_cons (dv 3) da_nil)) (dv 1))))) dss_nil) 
      (dss_one (ds_setIx (dv 0) de_int (de_op op_mod od_mod (de_T call_int1 cd_int (by rfl) T.b_int (by decide +kernel) (da_cons (de_op op_addD od_add (de_op op_addD od_add (de_op op_mulD od_mul (de_ix ix_seq od_ix (dv 0) de_int (fun _ _ => rfl)) de_int) (dv 3)) de_int) da_nil)) de_int)))))) 
      (dss_one (ds_setIx (dv 0) de_int (de_op op_mod od_mod (de_T call_int1 cd_int (by rfl) T.b_int (by decide +kernel) (da_cons (de_op op_addD od_add (de_op op_mulD od_mul (de_ix ix_seq od_ix (dv 0) de_int (fun _ _ => rfl)) de_int) de_int) da_nil)) de_int)))) 
      (dss_one (ds_ret (de_op op_mod od_mod (de_op op_fdiv od_fdiv (de_T call_int1 cd_int (by rfl) T.b_int (by decide +kernel) (da_cons (de_op op_mod od_mod (de_op op_mulD od_mul (de_ix ix_seq od_ix (dv 0) de_int (fun _ _ => rfl)) de_int) de_int) da_nil)) de_int) (dv 1)))))))
    (by intro ds μ Q h; unfold DL.C0_next at h; split at h <;> first | rfl | exact h.elim) (by
  intro ds μ Q h
  unfold C0_next at h
  split at h
  · rename_i dr many
    obtain ⟨ns, i, j, k, hd, hb, h0, h1, hq⟩ := h
    unfold bufD at hd hq
    have hm : ∀ x : Int, 0 ≤ x % many ∧ x % many < many := fun x => ⟨Int.emod_nonneg _ (by omega), Int.emod_lt_of_pos _ h0⟩
    have hm3 : ∀ x : Int, 0 ≤ x % 2147483647 ∧ x % 2147483647 < 2147483647 := fun x => ⟨Int.emod_nonneg _ (by omega), Int.emod_lt_of_pos _ (by omega)⟩
    obtain ⟨b1, b2, b3, b4, b5⟩ := hb
    (walk_at "dl")
    simp only [buf_ix hd]
    (walk_at "dl")
    by_cases hj : 0 < j
    · simp only [hj, if_true]
      refine ⟨h0, ?_⟩
      unfold sSetIx
      (walk_at "dl")
      simp only [buf_ix hd]
      (walk_at "dl")
      refine ⟨⟨h0, h1⟩, dr, _, _, 2, rfl, rfl, hd, rfl, ?_⟩
      (walk_at "dl")
      exact hq _ i (j / many) k (hm _).1 (hm _).2 ⟨b1, b2, Int.ediv_nonneg b3 (by omega), b4, b5⟩
    · simp only [hj, if_false]
      by_cases hi : i < ns.length
      · have hi2 : i < ((ns.map D.int).length : Int) := by rw [List.length_map]; exact hi
        simp only [hi2, decide_true, if_true]
        obtain ⟨x, hx, _⟩ := atI_in b2 hi
        refine ⟨D.int x, by rw [atI_map, hx]; rfl, ?_⟩
        unfold sSetIx
        (walk_at "dl")
        simp only [buf_ix hd]
        (walk_at "dl")
        refine ⟨dr, _, _, 1, rfl, rfl, hd, rfl, ?_⟩
        (walk_at "dl")
        refine ⟨⟨by omega, by omega, by decide⟩, ?_⟩
        by_cases hc : (10 : Int) ^ (18 : Int).toNat ≤ absI x
        · simp only [hc, decide_true, if_true]
          refine ⟨⟨h0, h1⟩, dr, _, _, 2, rfl, rfl, Mu.put_same, rfl, ?_⟩
          rw [Mu.put_put]
          (walk_at "dl")
          refine ⟨h0, ?_⟩
          exact hq _ (i + 1) (absI x / many) k (hm _).1 (hm _).2 ⟨b1, by omega, Int.ediv_nonneg (abs_nn x) (by omega), b4, b5⟩
        · simp only [hc, decide_false, Bool.false_eq_true, if_false]
          simp only [buf_ix Mu.put_same]
          (walk_at "dl")
          refine ⟨Or.inr ⟨by omega, by omega⟩, by omega, dr, _, _, 3, rfl, rfl, Mu.put_same, rfl, ?_⟩
          rw [Mu.put_put]
          (walk_at "dl")
          simp only [buf_ix Mu.put_same]
          (walk_at "dl")
          have hk := hm3 (k * 48271 + absI x + 11)
          refine ⟨Or.inr ⟨by omega, by omega⟩, by omega, ⟨by omega, by omega⟩, h0, ?_⟩
          exact hq _ (i + 1) j _ (hm _).1 (hm _).2 ⟨b1, by omega, b3, hk.1, hk.2⟩
      · have hi2 : ¬ i < ((ns.map D.int).length : Int) := by rw [List.length_map]; exact hi
        simp only [hi2, decide_false, Bool.false_eq_true, if_false]
        unfold sSetIx
        (walk_at "dl")
        simp only [buf_ix hd]
        (walk_at "dl")
        refine ⟨Or.inr ⟨by omega, by omega⟩, by omega, dr, _, _, 3, rfl, rfl, hd, rfl, ?_⟩
        (walk_at "dl")
        simp only [buf_ix Mu.put_same]
        (walk_at "dl")
        have hk := hm3 (k * 48271 + 12345)
        refine ⟨Or.inr ⟨by omega, by omega⟩, by omega, ⟨by omega, by omega⟩, h0, ?_⟩
        exact hq _ i j _ (hm _).1 (hm _).2 ⟨b1, b2, b3, hk.1, hk.2⟩
  · exact h.elim
)

theorem ok0__law_draw (T : Tx K mg) : FnOk P w K mg base CX0 1 T.a__law_draw T.d__law_draw ["script"] (spD K DL.C0_draw) :=
  DL.Fun.okD (N := ["script"]) T.F__law_draw sc__law_draw (fun cdv A outer s H E hr => 
      (dss_one (ds_ret (de_lstM (da_cons (de_T call_list_of cd_list (by rfl) T.b_list (by decide +kernel) (da_cons (dv 0) da_nil)) (da_cons de_int (da_cons de_int (da_cons de_int da_nil))))))))
    (by intro ds μ Q h; unfold DL.C0_draw at h; split at h <;> first | rfl | exact h.elim) (by
  intro ds μ Q h
  unfold C0_draw at h
  split at h
  · obtain ⟨h1, hq⟩ := h
    unfold bufD at hq
    (walk_at "dl")
    refine ⟨sz_small (by omega), ?_⟩
    exact hq
  · exact h.elim
)

theorem ok__law_next (T : Tx K mg) : FnOk P w K mg base CX0 1 T.a__law_next T.d__law_next ["draw", "many"] (spD K C__law_next) := (ok0__law_next T).imp fun _ _ _ _ h => next_imp h
theorem ok__law_draw (T : Tx K mg) : FnOk P w K mg base CX0 1 T.a__law_draw T.d__law_draw ["script"] (spD K C__law_draw) := (ok0__law_draw T).imp fun _ _ _ _ h => draw_imp h
end
end K43
end

-- part P0
section
local macro_rules | `(tactic| walk_at "dl") => `(tactic| simp only [DL.sRet, DL.sSeq, DL.sSet, DL.sIf, DL.sNext, DL.sNever, DL.sDrop, DL.sAsg, DL.sRetN, DL.dVar, DL.dC, DL.dOp, DL.dTest, DL.dAnd, DL.dOr, DL.dNot, DL.dTru, DL.dAndV, DL.dOrV, DL.dNotV, DL.dIf, DL.aNil, DL.aCons, DL.dTup, DL.dLst, DL.dLstM, DL.dCall, DL.dFrz, DL.dB, DL.dNeg, DL.dSl, DL.oNone, DL.oSome, DL.dChn, DL.gN, DL.gT, DL.setAll,
  DL.ix_l, DL.ix_t, DL.ix_s, DL.ix_p, DL.add_i, DL.add_s, DL.add_l, DL.add_t, DL.mul_i, DL.mul_b, DL.sub_i, DL.fdiv_i, DL.mod_i, DL.pow_i, DL.shl_i, DL.shr_i, DL.and_i, DL.lt_i, DL.le_i, DL.gt_i, DL.ge_i, DL.le_s, DL.in_t, DL.in_l, DL.in_s, DL.len_l, DL.len_t, DL.len_s, DL.len_p, DL.list_l, DL.list_t, DL.list_s, DL.list_p, DL.tuple_l, DL.tuple_t, DL.int_i, DL.int_b, DL.abs_i, DL.max_i, DL.min_i, DL.all_l, DL.any_l, DL.isi_1, DL.isi_n, DL.sl_l, DL.sl_t, DL.sl_s, DL.neg_i, DL.isN_i, DL.notN_i, DL.eq_x, DL.ne_x,
  DL.w_wrote_many, DL.w_wrote_many_b, DL.w_wrote_among, DL.w_wrote_among_b, DL.w_wrote_did, DL.w_wrote_did_b, DL.w_wrote_times, DL.w_wrote_times_b, DL.w_wrote_value, DL.w_wrote_value_b, DL.w_wrote_head, DL.w_wrote_head_b, DL.w_many_wrote, DL.w_many_wrote_b, DL.w_many_among, DL.w_many_among_b, DL.w_many_did, DL.w_many_did_b, DL.w_many_times, DL.w_many_times_b, DL.w_many_value, DL.w_many_value_b, DL.w_many_head, DL.w_many_head_b, DL.w_among_wrote, DL.w_among_wrote_b, DL.w_among_many, DL.w_among_many_b, DL.w_among_did, DL.w_among_did_b, DL.w_among_times, DL.w_among_times_b, DL.w_among_value, DL.w_among_value_b, DL.w_among_head, DL.w_among_head_b, DL.w_did_wrote, DL.w_did_wrote_b, DL.w_did_many, DL.w_did_many_b, DL.w_did_among, DL.w_did_among_b, DL.w_did_times, DL.w_did_times_b, DL.w_did_value, DL.w_did_value_b, DL.w_did_head, DL.w_did_head_b, DL.w_times_wrote, DL.w_times_wrote_b, DL.w_times_many, DL.w_times_many_b, DL.w_times_among, DL.w_times_among_b, DL.w_times_did, DL.w_times_did_b, DL.w_times_value, DL.w_times_value_b, DL.w_times_head, DL.w_times_head_b, DL.w_value_wrote, DL.w_value_wrote_b, DL.w_value_many, DL.w_value_many_b, DL.w_value_among, DL.w_value_among_b, DL.w_value_did, DL.w_value_did_b, DL.w_value_times, DL.w_value_times_b, DL.w_value_head, DL.w_value_head_b, DL.w_head_wrote, DL.w_head_wrote_b, DL.w_head_many, DL.w_head_many_b, DL.w_head_among, DL.w_head_among_b, DL.w_head_did, DL.w_head_did_b, DL.w_head_times, DL.w_head_times_b, DL.w_head_value, DL.w_head_value_b,
  DL.q_ss, DL.q_ii, DL.q_bb, DL.q_nn, DL.q_tt, DL.q_ll, DL.q_si, DL.q_sn, DL.q_st, DL.q_sl, DL.q_is, DL.q_in, DL.q_it, DL.q_il, DL.q_ns, DL.q_ni, DL.q_nt, DL.q_nl, DL.q_ts, DL.q_ti, DL.q_tn, DL.q_tl, DL.q_ls, DL.q_li, DL.q_ln, DL.q_lt, DL.qs_nil, DL.qs_cons, DL.qs_nc, DL.qs_cn, DL.p_t16, DL.p_l16, DL.p_t15, DL.p_l15, DL.p_t14, DL.p_l14, DL.p_t13, DL.p_l13, DL.p_t12, DL.p_l12, DL.p_s, DL.p_i, DL.p_b, DL.p_n, DL.ps_nil, DL.ps_cons, DL.t_b, DL.t_i, DL.t_l, DL.t_t, DL.t_n, DL.n_n, DL.n_i, DL.n_s, DL.n_t, DL.n_l, DL.n_b, DL.f_s, DL.f_i,
  Bool.false_and, Bool.and_false, DL.z0, DL.z1, DL.z2, DL.z3, DL.z4, DL.z5, DL.z6, DL.z12,
  DL.startD, DL.sFrz, DL.sApp, DL.yesD, DL.lcTurn, DL.wipeE, DL.at0, DL.at1, DL.at2, DL.at3, DL.at4, List.map_cons, List.map_nil, List.replicate_succ, List.replicate_zero, List.length_cons, List.length_nil, List.cons_append, List.nil_append, List.set_cons_zero, List.set_cons_succ, List.getElem?_cons_zero, List.getElem?_cons_succ, Option.some.injEq, exists_eq_left, exists_eq_left', exists_eq', exists_eq, true_and, and_true, decide_eq_true_eq, if_true, if_false, Bool.false_eq_true, reduceIte, Nat.reduceAdd, Nat.reduceSub, DL.D.bl.injEq, DL.D.int.injEq, DL.D.str.injEq, DL.D.tup.injEq, DL.D.lst.injEq, DL.D.ptr.injEq, Bool.not_true, Bool.not_false, beq_self_eq_true, List.all_cons, List.all_nil, List.any_cons, List.any_nil, Bool.and_true, Bool.true_and, Bool.or_false, Bool.false_or, Bool.or_true, Bool.true_or, Bool.false_xor, Bool.true_xor, beq_iff_eq, Bool.not_eq_true, Int.reduceEq, Int.reduceBEq, and_self])

namespace K43
open PySem L2 DL
theorem written_eq (hs : List Com) (k : Str) : (hs.map eCom).flatMap (fun d : D => (match d with | .tup ps => ps | _ => []).filterMap fun p : D => match p with | .tup [.str n, .int v] => if n = k then some (D.int v) else none | _ => none) = (written hs k).map D.int := by
  unfold written
  rw [List.flatMap_map, List.map_flatMap]
  congr 1
  funext c
  unfold eCom
  simp only [List.filterMap_map, List.map_map]
  induction c with
  | nil => rfl
  | cons p c ih =>
    by_cases h : p.1 = k
    · simp [List.filterMap_cons, ePair, h] at ih ⊢
      exact ih
    · simp [List.filterMap_cons, ePair, h] at ih ⊢
      exact ih
theorem bd_flat {hs : List Com} (hb : bdH hs) : ((hs.map eCom).flatMap fun d : D => match d with | .tup ps => ps | _ => []).length ≤ 10000 := by
  have go : ∀ l : List Com, (∀ c ∈ l, c.length ≤ 100) → ((l.map eCom).flatMap fun d : D => match d with | .tup ps => ps | _ => []).length ≤ 100 * l.length := by
    intro l
    induction l with
    | nil => intro _; simp
    | cons c l ih =>
      intro h
      have h1 := h c (by simp)
      have h2 := ih fun d hd => h d (by simp [hd])
      simp only [List.map_cons, List.flatMap_cons, List.length_append, List.length_cons]
      simp only [eCom, List.length_map] at h2 ⊢
      omega
  have := go hs hb.2
  have := hb.1
  omega
theorem bd_take {hs : List Com} (hb : bdH hs) (n : Nat) : bdH (hs.take n) := ⟨by rw [List.length_take]; have := hb.1; omega, fun c hc => hb.2 c (List.mem_of_mem_take hc)⟩
section
variable {P : Program} {w : World} {K : PySem.W.Frag} {mg : Str → Option Value} {base : Heap}
theorem ok_values_written (T : Tx K mg) : FnOk P w K mg base CX0 1 T.a_values_written T.d_values_written ["history", "key", "version"] (spD K C_values_written) :=
  DL.Fun.okD (N := ["history", "key", "version", "commit", "written", "value"]) T.F_values_written sc_values_written (fun cdv A outer s H E hr => 
      (dss_one (ds_ret (de_lc2 [("commit", 3), ("written", 4), ("value", 5)] [4, 5] rfl sc_values_written.nd (di_seq (de_sl (dv 0) do_none (do_some (dv 2)))) (blkOk_by (sc := (defScope s_values_written)) (own := [("commit", 3), ("written", 4), ("value", 5)]) (N := ["history", "key", "version", "commit", "written", "value"]) (by decide +kernel)) (fun _ _ _ _ _ => (dg_name 3 sc_values_written.nd)) (fun _ _ _ _ _ => dts_nil) (fun _ _ _ _ _ => (di_seq (dv 3))) (fun _ _ _ _ _ => (dg_tup [4, 5] rfl (pgs_cons (pg_name (i := 4) sc_values_written.nd rfl (by first | exact Or.inl rfl | exact Or.inr rfl)) (pgs_cons (pg_name (i := 5) sc_values_written.nd rfl (by first | exact Or.inl rfl | exact Or.inr rfl)) pgs_nil)))) (fun _ _ _ _ _ => dts_one (dt_cmp (op_eqD hr.units) od_eq (dv 4) (dv 1) (nomark _))) (fun _ _ _ _ _ => (dv 5))))))
    (by intro ds μ Q h; unfold C_values_written at h; split at h <;> first | rfl | exact h.elim) (by
  intro ds μ Q h
  unfold C_values_written at h
  split at h
  · rename_i ds' h' k v
    obtain ⟨hs, rfl, hb, hv, hq⟩ := h
    (walk_at "dl")
    refine lc2_pure (ds := (hs.take v.toNat).map eCom) (fun d => match d with | .tup ps => ps | _ => []) (fun d => [some (eHist hs), some (.str k), some (.int v), some d, none, none]) (fun _ p => match p with | .tup [.str n, .int v] => if n = k then some (D.int v) else none | _ => none) (seq_l fun R h => ?_) (Nat.lt_of_le_of_lt (bd_flat (bd_take hb _)) (by decide)) (fun d hd p acc hp X Y hX => ?_) (fun d hd e he p acc hp N hN => ?_) ?_
    · unfold eHist
      (walk_at "dl")
      rw [cut_take _ hv, ← List.map_take]
      exact h
    · obtain ⟨c, hc, rfl⟩ := List.mem_map.mp hd
      unfold eCom at hX ⊢
      (walk_at "dl")
      refine seq_t (fun R h => ?_) _ hX
      (walk_at "dl")
      exact h
    · obtain ⟨c, hc, rfl⟩ := List.mem_map.mp hd
      obtain ⟨pr, hpr, rfl⟩ := List.mem_map.mp he
      unfold ePair at hN ⊢
      (walk_at "dl")
      by_cases e : pr.1 = k
      · rw [if_pos e]
        exact hN _ (by simp [e])
      · rw [if_neg e]
        exact hN _ (by simp [e])
    · rw [written_eq]
      exact hq
  · exact h.elim
)

end
end K43
end

-- part P1
section
local macro_rules | `(tactic| walk_at "dl") => `(tactic| simp only [DL.sRet, DL.sSeq, DL.sSet, DL.sIf, DL.sNext, DL.sNever, DL.sDrop, DL.sAsg, DL.sRetN, DL.dVar, DL.dC, DL.dOp, DL.dTest, DL.dAnd, DL.dOr, DL.dNot, DL.dTru, DL.dAndV, DL.dOrV, DL.dNotV, DL.dIf, DL.aNil, DL.aCons, DL.dTup, DL.dLst, DL.dLstM, DL.dCall, DL.dFrz, DL.dB, DL.dNeg, DL.dSl, DL.oNone, DL.oSome, DL.dChn, DL.gN, DL.gT, DL.setAll,
  DL.ix_l, DL.ix_t, DL.ix_s, DL.ix_p, DL.add_i, DL.add_s, DL.add_l, DL.add_t, DL.mul_i, DL.mul_b, DL.sub_i, DL.fdiv_i, DL.mod_i, DL.pow_i, DL.shl_i, DL.shr_i, DL.and_i, DL.lt_i, DL.le_i, DL.gt_i, DL.ge_i, DL.le_s, DL.in_t, DL.in_l, DL.in_s, DL.len_l, DL.len_t, DL.len_s, DL.len_p, DL.list_l, DL.list_t, DL.list_s, DL.list_p, DL.tuple_l, DL.tuple_t, DL.int_i, DL.int_b, DL.abs_i, DL.max_i, DL.min_i, DL.all_l, DL.any_l, DL.isi_1, DL.isi_n, DL.sl_l, DL.sl_t, DL.sl_s, DL.neg_i, DL.isN_i, DL.notN_i, DL.eq_x, DL.ne_x,
  DL.w_wrote_many, DL.w_wrote_many_b, DL.w_wrote_among, DL.w_wrote_among_b, DL.w_wrote_did, DL.w_wrote_did_b, DL.w_wrote_times, DL.w_wrote_times_b, DL.w_wrote_value, DL.w_wrote_value_b, DL.w_wrote_head, DL.w_wrote_head_b, DL.w_many_wrote, DL.w_many_wrote_b, DL.w_many_among, DL.w_many_among_b, DL.w_many_did, DL.w_many_did_b, DL.w_many_times, DL.w_many_times_b, DL.w_many_value, DL.w_many_value_b, DL.w_many_head, DL.w_many_head_b, DL.w_among_wrote, DL.w_among_wrote_b, DL.w_among_many, DL.w_among_many_b, DL.w_among_did, DL.w_among_did_b, DL.w_among_times, DL.w_among_times_b, DL.w_among_value, DL.w_among_value_b, DL.w_among_head, DL.w_among_head_b, DL.w_did_wrote, DL.w_did_wrote_b, DL.w_did_many, DL.w_did_many_b, DL.w_did_among, DL.w_did_among_b, DL.w_did_times, DL.w_did_times_b, DL.w_did_value, DL.w_did_value_b, DL.w_did_head, DL.w_did_head_b, DL.w_times_wrote, DL.w_times_wrote_b, DL.w_times_many, DL.w_times_many_b, DL.w_times_among, DL.w_times_among_b, DL.w_times_did, DL.w_times_did_b, DL.w_times_value, DL.w_times_value_b, DL.w_times_head, DL.w_times_head_b, DL.w_value_wrote, DL.w_value_wrote_b, DL.w_value_many, DL.w_value_many_b, DL.w_value_among, DL.w_value_among_b, DL.w_value_did, DL.w_value_did_b, DL.w_value_times, DL.w_value_times_b, DL.w_value_head, DL.w_value_head_b, DL.w_head_wrote, DL.w_head_wrote_b, DL.w_head_many, DL.w_head_many_b, DL.w_head_among, DL.w_head_among_b, DL.w_head_did, DL.w_head_did_b, DL.w_head_times, DL.w_head_times_b, DL.w_head_value, DL.w_head_value_b,
  DL.q_ss, DL.q_ii, DL.q_bb, DL.q_nn, DL.q_tt, DL.q_ll, DL.q_si, DL.q_sn, DL.q_st, DL.q_sl, DL.q_is, DL.q_in, DL.q_it, DL.q_il, DL.q_ns, DL.q_ni, DL.q_nt, DL.q_nl, DL.q_ts, DL.q_ti, DL.q_tn, DL.q_tl, DL.q_ls, DL.q_li, DL.q_ln, DL.q_lt, DL.qs_nil, DL.qs_cons, DL.qs_nc, DL.qs_cn, DL.p_t16, DL.p_l16, DL.p_t15, DL.p_l15, DL.p_t14, DL.p_l14, DL.p_t13, DL.p_l13, DL.p_t12, DL.p_l12, DL.p_s, DL.p_i, DL.p_b, DL.p_n, DL.ps_nil, DL.ps_cons, DL.t_b, DL.t_i, DL.t_l, DL.t_t, DL.t_n, DL.n_n, DL.n_i, DL.n_s, DL.n_t, DL.n_l, DL.n_b, DL.f_s, DL.f_i,
  Bool.false_and, Bool.and_false, DL.z0, DL.z1, DL.z2, DL.z3, DL.z4, DL.z5, DL.z6, DL.z12,
  DL.startD, DL.sFrz, DL.sApp, DL.yesD, DL.lcTurn, DL.wipeE, DL.at0, DL.at1, DL.at2, DL.at3, DL.at4, List.map_cons, List.map_nil, List.replicate_succ, List.replicate_zero, List.length_cons, List.length_nil, List.cons_append, List.nil_append, List.set_cons_zero, List.set_cons_succ, List.getElem?_cons_zero, List.getElem?_cons_succ, Option.some.injEq, exists_eq_left, exists_eq_left', exists_eq', exists_eq, true_and, and_true, decide_eq_true_eq, if_true, if_false, Bool.false_eq_true, reduceIte, Nat.reduceAdd, Nat.reduceSub, DL.D.bl.injEq, DL.D.int.injEq, DL.D.str.injEq, DL.D.tup.injEq, DL.D.lst.injEq, DL.D.ptr.injEq, Bool.not_true, Bool.not_false, beq_self_eq_true, List.all_cons, List.all_nil, List.any_cons, List.any_nil, Bool.and_true, Bool.true_and, Bool.or_false, Bool.false_or, Bool.or_true, Bool.true_or, Bool.false_xor, Bool.true_xor, beq_iff_eq, Bool.not_eq_true, Int.reduceEq, Int.reduceBEq, and_self])

namespace K43
open PySem L2 DL
section
variable {P : Program} {w : World} {K : PySem.W.Frag} {mg : Str → Option Value} {base : Heap}
theorem ok_version_of (T : Tx K mg) : FnOk P w K mg base CX0 1 T.a_version_of T.d_version_of ["piece"] (spD K C_version_of) :=
  DL.Fun.okD (N := ["piece"]) T.F_version_of sc_version_of (fun cdv A outer s H E hr => 
      (dss_cons (ds_if (dt_cmp (op_eqD hr.units) od_eq (de_ix ix_seq od_ix (dv 0) de_int (fun _ _ => rfl)) (de_str) (nomark _)) 
      (dss_one (ds_ret de_non)) dss_nil) 
      (dss_cons (ds_if (dt_cmp (op_eqD hr.units) od_eq (de_ix ix_seq od_ix (dv 0) de_int (fun _ _ => rfl)) (de_str) (nomark _)) 
      (dss_one (ds_ret (de_ix ix_seq od_ix (dv 0) de_int (fun _ _ => rfl)))) dss_nil) 
      (dss_one (ds_ret (de_ix ix_seq od_ix (dv 0) de_int (fun _ _ => rfl)))))))
    (by intro ds μ Q h; unfold C_version_of at h; split at h <;> first | rfl | exact h.elim) (by
  intro ds μ Q h
  unfold C_version_of at h
  split at h
  · obtain ⟨q, rfl, hq⟩ := h
    cases q <;> (unfold ePc; (walk_at "dl"); exact hq)
  · exact h.elim
)

theorem ok_shelf_keys (T : Tx K mg) : FnOk P w K mg base CX0 1 T.a_shelf_keys T.d_shelf_keys ["piece"] (spD K C_shelf_keys) :=
  DL.Fun.okD (N := ["piece"]) T.F_shelf_keys sc_shelf_keys (fun cdv A outer s H E hr => 
      (dss_cons (ds_if (dt_cmp op_inD2 od_in (de_ix ix_seq od_ix (dv 0) de_int (fun _ _ => rfl)) (de_tup (da_cons (de_str) (da_cons (de_str) da_nil))) (by rfl)) 
      (dss_one (ds_ret (de_ix ix_seq od_ix (dv 0) de_int (fun _ _ => rfl)))) dss_nil) 
      (dss_cons (ds_if (dt_cmp (op_eqD hr.units) od_eq (de_ix ix_seq od_ix (dv 0) de_int (fun _ _ => rfl)) (de_str) (nomark _)) 
      (dss_one (ds_ret (de_tup (da_cons (de_ix ix_seq od_ix (dv 0) de_int (fun _ _ => rfl)) da_nil)))) dss_nil) 
      (dss_cons (ds_if (dt_cmp (op_eqD hr.units) od_eq (de_ix ix_seq od_ix (dv 0) de_int (fun _ _ => rfl)) (de_str) (nomark _)) 
      (dss_one (ds_ret (de_tup (da_cons (de_ix ix_seq od_ix (dv 0) de_int (fun _ _ => rfl)) da_nil)))) dss_nil) 
      (dss_one (ds_ret (de_tup da_nil)))))))
    (by intro ds μ Q h; unfold C_shelf_keys at h; split at h <;> first | rfl | exact h.elim) (by
  intro ds μ Q h
  unfold C_shelf_keys at h
  split at h
  · obtain ⟨q, rfl, hq⟩ := h
    cases q <;> (unfold ePc; (walk_at "dl"); exact hq)
  · exact h.elim
)

theorem ok__law_keys (T : Tx K mg) : FnOk P w K mg base CX0 1 T.a__law_keys T.d__law_keys ["history"] (spD K C__law_keys) :=
  DL.Fun.okD (N := ["history", "pair", "commit"]) T.F__law_keys sc__law_keys (fun cdv A outer s H E hr => 
      (dss_one (ds_ret (de_T call_tuple_of cd_tuple (by rfl) T.b_tuple (by decide +kernel) (da_cons (de_lc [("commit", 2)] rfl sc__law_keys.nd (di_seq (dv 0)) (blkOk_by (sc := (defScope s__law_keys)) (own := [("commit", 2)]) (N := ["history", "pair", "commit"]) (by decide +kernel)) (fun _ _ _ _ _ => (dg_name 2 sc__law_keys.nd)) (fun _ _ _ _ _ => dts_nil) (fun _ _ _ _ _ => (de_T call_tuple_of cd_tuple (by rfl) T.b_tuple (by decide +kernel) (da_cons (de_lc [("pair", 1)] rfl sc__law_keys.nd (di_seq (dv 2)) (blkOk_by (sc := (relS _ (defScope s__law_keys))) (own := [("pair", 1)]) (N := ["history", "pair", "commit"]) (by decide +kernel)) (fun _ _ _ _ _ => (dg_name 1 sc__law_keys.nd)) (fun _ _ _ _ _ => dts_nil) (fun _ _ _ _ _ => (de_ix ix_seq od_ix (dv 1) de_int (fun _ _ => rfl)))) da_nil)))) da_nil)))))
    (by intro ds μ Q h; unfold C__law_keys at h; split at h <;> first | rfl | exact h.elim) (by
  intro ds μ Q h
  unfold C__law_keys at h
  split at h
  · obtain ⟨hs, rfl, hq⟩ := h
    (walk_at "dl")
    refine lc_map (ds := hs.map eCom) (fun d => match d with | .tup ps => .tup (ps.map fun p => match p with | .tup (k :: _) => k | _ => .non) | _ => .non) (seq_l fun R h => ?_) (fun d hd p acc hp N hN => ?_) ?_
    · (walk_at "dl")
      exact h
    · obtain ⟨c, hc, rfl⟩ := List.mem_map.mp hd
      (walk_at "dl")
      refine lc_map (ds := c.map ePair) (fun p => match p with | .tup (k :: _) => k | _ => .non) (seq_t fun R h => ?_) (fun d hd p2 acc2 hp2 N2 hN2 => ?_) ?_
      · (walk_at "dl")
        exact h
      · obtain ⟨pr, hpr, rfl⟩ := List.mem_map.mp hd
        unfold ePair
        (walk_at "dl")
        exact hN2 _ rfl
      · exact hN _ rfl
    · (walk_at "dl")
      unfold eTab at hq
      have e : (hs.map eCom).map (fun d => match d with | .tup ps => D.tup (ps.map fun p => match p with | .tup (k :: _) => k | _ => .non) | _ => .non) = (hs.map keysOf).map eKeys := by
        rw [List.map_map, List.map_map]
        apply List.map_congr_left
        intro c _
        simp [eCom, eKeys, keysOf, ePair, List.map_map]
      rw [e]
      exact hq
  · exact h.elim
)

theorem ok_head_of (T : Tx K mg) : FnOk P w K mg base CX0 2 T.a_head_of T.d_head_of ["news"] (spD K C_head_of) :=
  DL.Fun.okD (N := ["news", "versions", "piece", "version"]) T.F_head_of sc_head_of (fun cdv A outer s H E hr => 
      (dss_cons (ds_setLc 1 [("piece", 2)] rfl sc_head_of.nd (sw_true rfl rfl rfl (by decide +kernel)) (di_seq (dv 0)) (blkOk_by (sc := (defScope s_head_of)) (own := [("piece", 2)]) (N := ["news", "versions", "piece", "version"]) (by decide +kernel)) (fun _ _ _ _ _ => (dg_name 2 sc_head_of.nd)) (fun _ _ _ _ _ => dts_nil) (fun _ _ _ _ _ => (de_call (ok_version_of T) (hr.mono (by decide)) (by rfl) T.m_version_of T.k_version_of T.v_version_of pass0 (da_cons (dv 2) da_nil)))) 
      (dss_one (ds_ret (de_maxD hr T.b_max (de_lc [("version", 3)] rfl sc_head_of.nd (di_seq (dv 1)) (blkOk_by (sc := (defScope s_head_of)) (own := [("version", 3)]) (N := ["news", "versions", "piece", "version"]) (by decide +kernel)) (fun _ _ _ _ _ => (dg_name 3 sc_head_of.nd)) (fun _ _ _ _ _ => dts_one (dt_cmp op_notN od_notN (dv 3) de_non (nomark _))) (fun _ _ _ _ _ => (dv 3))) de_int)))))
    (by intro ds μ Q h; unfold C_head_of at h; split at h <;> first | rfl | exact h.elim) (by
  intro ds μ Q h
  unfold C_head_of at h
  split at h
  · obtain ⟨ns, rfl, hq⟩ := h
    (walk_at "dl")
    refine lc_map (ds := ns.map ePc) (fun d => match d with | .tup [.str w, .int v] => .int v | .tup [.str w, .int v, _] => .int v | .tup [.str w, .str k, .int v, _] => if w = Str.ofString "times" then .int v else .non | _ => .non) (seq_l fun R h => ?_) (fun d hd p acc hp N hN => ?_) ?_
    · (walk_at "dl")
      exact h
    · obtain ⟨q, hq, rfl⟩ := List.mem_map.mp hd
      (walk_at "dl")
      refine ⟨q, rfl, hN _ ?_⟩
      cases q <;> first | rfl | (unfold ePc verOf; (walk_at "dl"))
    · have e : (ns.map ePc).map (fun d => match d with | .tup [.str w, .int v] => D.int v | .tup [.str w, .int v, _] => .int v | .tup [.str w, .str k, .int v, _] => if w = Str.ofString "times" then .int v else .non | _ => .non) = ns.map fun q => match verOf q with | none => D.non | some v => .int v := by
        rw [List.map_map]
        apply List.map_congr_left
        intro q _
        cases q <;> first | rfl | (simp only [Function.comp]; unfold ePc verOf; (walk_at "dl"))
      rw [e]
      unfold dMaxD
      refine lc_fmap (ds := ns.map fun q => match verOf q with | none => D.non | some v => .int v) (fun d => match d with | .int v => some (.int v) | _ => none) (seq_l fun R h => ?_) (fun d hd p acc hp N hN => ?_) ?_
      · (walk_at "dl")
        exact h
      · obtain ⟨q, hq, rfl⟩ := List.mem_map.mp hd
        revert hN
        cases verOf q <;> intro hN <;> ((walk_at "dl"); exact hN _ rfl)
      · (walk_at "dl")
        refine ⟨_, ns.filterMap verOf, 0, rfl, ?_, rfl, hq⟩
        have e2 : (ns.map fun q => match verOf q with | none => D.non | some v => .int v).filterMap (fun d => match d with | .int v => some (D.int v) | _ => none) = (ns.filterMap verOf).map D.int := by
          rw [List.filterMap_map, List.map_filterMap]
          congr 1
          funext q
          simp only [Function.comp]
          cases verOf q <;> rfl
        rw [e2]
        have := ints_map (fun i : Int => i) (ns.filterMap verOf)
        simpa using this
  · exact h.elim
)

theorem ok_times_in (T : Tx K mg) : FnOk P w K mg base CX0 2 T.a_times_in T.d_times_in ["history", "key", "version"] (spD K C_times_in) :=
  DL.Fun.okD (N := ["history", "key", "version"]) T.F_times_in sc_times_in (fun cdv A outer s H E hr => 
      (dss_one (ds_ret (de_B L2.call_len cd_len (by rfl) T.b_len (by decide +kernel) (da_cons (de_call (ok_values_written T) (hr.mono (by decide)) (by rfl) T.m_values_written T.k_values_written T.v_values_written pass0 (da_cons (dv 0) (da_cons (dv 1) (da_cons (dv 2) da_nil)))) da_nil)))))
    (by intro ds μ Q h; unfold C_times_in at h; split at h <;> first | rfl | exact h.elim) (by
  intro ds μ Q h
  unfold C_times_in at h
  split at h
  · obtain ⟨hs, rfl, hb, hv, hq⟩ := h
    (walk_at "dl")
    refine ⟨hs, rfl, hb, hv, ?_⟩
    (walk_at "dl")
    rw [List.length_map]
    exact hq
  · exact h.elim
)

theorem ok_value_in (T : Tx K mg) : FnOk P w K mg base CX0 2 T.a_value_in T.d_value_in ["history", "key", "version"] (spD K C_value_in) :=
  DL.Fun.okD (N := ["history", "key", "version", "values"]) T.F_value_in sc_value_in (fun cdv A outer s H E hr => 
      (dss_cons (ds_set 3 sc_value_in.nd (de_call (ok_values_written T) (hr.mono (by decide)) (by rfl) T.m_values_written T.k_values_written T.v_values_written pass0 (da_cons (dv 0) (da_cons (dv 1) (da_cons (dv 2) da_nil))))) 
      (dss_one (ds_ret (de_if (dt_tru (dv 3)) (de_ix ix_seq od_ix (dv 3) (de_neg de_int) (fun _ _ => rfl)) de_int)))))
    (by intro ds μ Q h; unfold C_value_in at h; split at h <;> first | rfl | exact h.elim) (by
  intro ds μ Q h
  unfold C_value_in at h
  split at h
  · obtain ⟨hs, rfl, hb, hv, hq⟩ := h
    (walk_at "dl")
    refine ⟨hs, rfl, hb, hv, ?_⟩
    (walk_at "dl")
    rcases List.eq_nil_or_concat (written (hs.take _) _) with e | ⟨l, x, e⟩
    · rw [e] at hq ⊢
      exact hq
    · rw [e] at hq ⊢
      rw [List.concat_eq_append, List.map_append, List.map_cons, List.map_nil]
      rw [if_pos (by cases l <;> rfl), atI_back]
      refine ⟨_, rfl, ?_⟩
      simpa using hq
  · exact h.elim
)

theorem ok_keys_written (T : Tx K mg) : FnOk P w K mg base CX0 1 T.a_keys_written T.d_keys_written ["history", "version"] (spD K C_keys_written) :=
  DL.Fun.okD (N := ["history", "version", "key", "_"]) T.F_keys_written sc_keys_written (fun cdv A outer s H E hr => 
      (dss_cons (ds_if (dt_cmp op_ltD od_lt (dv 1) de_int (nomark _)) 
      (dss_one (ds_ret (de_tup da_nil))) dss_nil) 
      (dss_one (ds_ret (de_T call_tuple_of cd_tuple (by rfl) T.b_tuple (by decide +kernel) (da_cons (de_lc [("key", 2), ("_", 3)] rfl sc_keys_written.nd (di_seq (de_ix ix_seq od_ix (dv 0) (de_op op_sub od_sub (dv 1) de_int) (fun _ _ => rfl))) (blkOk_by (sc := (defScope s_keys_written)) (own := [("key", 2), ("_", 3)]) (N := ["history", "version", "key", "_"]) (by decide +kernel)) (fun _ _ _ _ _ => (dg_tup [2, 3] rfl (pgs_cons (pg_name (i := 2) sc_keys_written.nd rfl (by first | exact Or.inl rfl | exact Or.inr rfl)) (pgs_cons (pg_name (i := 3) sc_keys_written.nd rfl (by first | exact Or.inl rfl | exact Or.inr rfl)) pgs_nil)))) (fun _ _ _ _ _ => dts_nil) (fun _ _ _ _ _ => (dv 2))) da_nil))))))
    (by intro ds μ Q h; unfold C_keys_written at h; split at h <;> first | rfl | exact h.elim) (by
  intro ds μ Q h
  unfold C_keys_written at h
  split at h
  · rename_i v
    obtain ⟨hs, rfl, hv, hq⟩ := h
    unfold keysW at hq
    (walk_at "dl")
    by_cases h1 : v < 1
    · rw [if_pos h1] at hq ⊢
      exact hq
    · rw [if_neg h1] at hq ⊢
      obtain ⟨c, hc1, hc2⟩ := atI_in (l := hs) (i := v - 1) (by omega) (by omega)
      have hg : hs.getD (v - 1).toNat [] = c := by rw [List.getD_eq_getElem?_getD, hc2]; rfl
      rw [hg] at hq
      unfold eHist
      refine lc_map (ds := c.map ePair) (fun p => match p with | .tup (k :: _) => k | _ => .non) (seq_t fun R h => ?_) (fun d hd p2 acc2 hp2 N2 hN2 => ?_) ?_
      · (walk_at "dl")
        rw [atI_map, hc1]
        exact ⟨_, rfl, h⟩
      · obtain ⟨pr, hpr, rfl⟩ := List.mem_map.mp hd
        unfold ePair
        (walk_at "dl")
        exact hN2 _ rfl
      · (walk_at "dl")
        unfold eKeys keysOf at hq
        rw [List.map_map] at hq ⊢
        exact hq
  · exact h.elim
)

end
end K43
end

-- part P2
section
local macro_rules | `(tactic| walk_at "dl") => `(tactic| simp only [DL.sRet, DL.sSeq, DL.sSet, DL.sIf, DL.sNext, DL.sNever, DL.sDrop, DL.sAsg, DL.sRetN, DL.dVar, DL.dC, DL.dOp, DL.dTest, DL.dAnd, DL.dOr, DL.dNot, DL.dTru, DL.dAndV, DL.dOrV, DL.dNotV, DL.dIf, DL.aNil, DL.aCons, DL.dTup, DL.dLst, DL.dLstM, DL.dCall, DL.dFrz, DL.dB, DL.dNeg, DL.dSl, DL.oNone, DL.oSome, DL.dChn, DL.gN, DL.gT, DL.setAll,
  DL.ix_l, DL.ix_t, DL.ix_s, DL.ix_p, DL.add_i, DL.add_s, DL.add_l, DL.add_t, DL.mul_i, DL.mul_b, DL.sub_i, DL.fdiv_i, DL.mod_i, DL.pow_i, DL.shl_i, DL.shr_i, DL.and_i, DL.lt_i, DL.le_i, DL.gt_i, DL.ge_i, DL.le_s, DL.in_t, DL.in_l, DL.in_s, DL.len_l, DL.len_t, DL.len_s, DL.len_p, DL.list_l, DL.list_t, DL.list_s, DL.list_p, DL.tuple_l, DL.tuple_t, DL.int_i, DL.int_b, DL.abs_i, DL.max_i, DL.min_i, DL.all_l, DL.any_l, DL.isi_1, DL.isi_n, DL.sl_l, DL.sl_t, DL.sl_s, DL.neg_i, DL.isN_i, DL.notN_i, DL.eq_x, DL.ne_x,
  DL.w_wrote_many, DL.w_wrote_many_b, DL.w_wrote_among, DL.w_wrote_among_b, DL.w_wrote_did, DL.w_wrote_did_b, DL.w_wrote_times, DL.w_wrote_times_b, DL.w_wrote_value, DL.w_wrote_value_b, DL.w_wrote_head, DL.w_wrote_head_b, DL.w_many_wrote, DL.w_many_wrote_b, DL.w_many_among, DL.w_many_among_b, DL.w_many_did, DL.w_many_did_b, DL.w_many_times, DL.w_many_times_b, DL.w_many_value, DL.w_many_value_b, DL.w_many_head, DL.w_many_head_b, DL.w_among_wrote, DL.w_among_wrote_b, DL.w_among_many, DL.w_among_many_b, DL.w_among_did, DL.w_among_did_b, DL.w_among_times, DL.w_among_times_b, DL.w_among_value, DL.w_among_value_b, DL.w_among_head, DL.w_among_head_b, DL.w_did_wrote, DL.w_did_wrote_b, DL.w_did_many, DL.w_did_many_b, DL.w_did_among, DL.w_did_among_b, DL.w_did_times, DL.w_did_times_b, DL.w_did_value, DL.w_did_value_b, DL.w_did_head, DL.w_did_head_b, DL.w_times_wrote, DL.w_times_wrote_b, DL.w_times_many, DL.w_times_many_b, DL.w_times_among, DL.w_times_among_b, DL.w_times_did, DL.w_times_did_b, DL.w_times_value, DL.w_times_value_b, DL.w_times_head, DL.w_times_head_b, DL.w_value_wrote, DL.w_value_wrote_b, DL.w_value_many, DL.w_value_many_b, DL.w_value_among, DL.w_value_among_b, DL.w_value_did, DL.w_value_did_b, DL.w_value_times, DL.w_value_times_b, DL.w_value_head, DL.w_value_head_b, DL.w_head_wrote, DL.w_head_wrote_b, DL.w_head_many, DL.w_head_many_b, DL.w_head_among, DL.w_head_among_b, DL.w_head_did, DL.w_head_did_b, DL.w_head_times, DL.w_head_times_b, DL.w_head_value, DL.w_head_value_b,
  DL.q_ss, DL.q_ii, DL.q_bb, DL.q_nn, DL.q_tt, DL.q_ll, DL.q_si, DL.q_sn, DL.q_st, DL.q_sl, DL.q_is, DL.q_in, DL.q_it, DL.q_il, DL.q_ns, DL.q_ni, DL.q_nt, DL.q_nl, DL.q_ts, DL.q_ti, DL.q_tn, DL.q_tl, DL.q_ls, DL.q_li, DL.q_ln, DL.q_lt, DL.qs_nil, DL.qs_cons, DL.qs_nc, DL.qs_cn, DL.p_t16, DL.p_l16, DL.p_t15, DL.p_l15, DL.p_t14, DL.p_l14, DL.p_t13, DL.p_l13, DL.p_t12, DL.p_l12, DL.p_s, DL.p_i, DL.p_b, DL.p_n, DL.ps_nil, DL.ps_cons, DL.t_b, DL.t_i, DL.t_l, DL.t_t, DL.t_n, DL.n_n, DL.n_i, DL.n_s, DL.n_t, DL.n_l, DL.n_b, DL.f_s, DL.f_i,
  Bool.false_and, Bool.and_false, DL.z0, DL.z1, DL.z2, DL.z3, DL.z4, DL.z5, DL.z6, DL.z12,
  DL.startD, DL.sFrz, DL.sApp, DL.yesD, DL.lcTurn, DL.wipeE, DL.at0, DL.at1, DL.at2, DL.at3, DL.at4, List.map_cons, List.map_nil, List.replicate_succ, List.replicate_zero, List.length_cons, List.length_nil, List.cons_append, List.nil_append, List.set_cons_zero, List.set_cons_succ, List.getElem?_cons_zero, List.getElem?_cons_succ, Option.some.injEq, exists_eq_left, exists_eq_left', exists_eq', exists_eq, true_and, and_true, decide_eq_true_eq, if_true, if_false, Bool.false_eq_true, reduceIte, Nat.reduceAdd, Nat.reduceSub, DL.D.bl.injEq, DL.D.int.injEq, DL.D.str.injEq, DL.D.tup.injEq, DL.D.lst.injEq, DL.D.ptr.injEq, Bool.not_true, Bool.not_false, beq_self_eq_true, List.all_cons, List.all_nil, List.any_cons, List.any_nil, Bool.and_true, Bool.true_and, Bool.or_false, Bool.false_or, Bool.or_true, Bool.true_or, Bool.false_xor, Bool.true_xor, beq_iff_eq, Bool.not_eq_true, Int.reduceEq, Int.reduceBEq, and_self])

namespace K43
open PySem L2 DL
theorem getD_at {l : List Int} {i : Int} (h0 : 0 ≤ i) (h1 : i < l.length) : atI l i = some (l.getD i.toNat 0) := by
  obtain ⟨x, h2, h3⟩ := atI_in h0 h1
  rw [h2, List.getD_eq_getElem?_getD, h3]
  rfl
theorem plain_ints (l : List Int) : plain 16 (.lst (l.map D.int)) = true := by
  rw [DL.plain]; exact plains_map l fun _ _ => by simp [DL.plain]
theorem plain_strs (ks : List Str) : DL.plain 16 (.lst (ks.map D.str)) = true := by
  rw [DL.plain]; exact plains_map ks fun _ _ => by simp [DL.plain]
theorem plain_keys (ks : List Str) : plain 16 (eKeys ks) = true := by
  unfold eKeys; rw [DL.plain]; exact plains_map ks fun _ _ => by simp [DL.plain]
theorem plains_keys (n : Nat) (ks : List Str) : plains n (ks.map D.str) = true := plains_map ks fun _ _ => by cases n <;> simp [DL.plain]
theorem eqv_keys (a b : List Str) : eqvD (eKeys a) (eKeys b) = decide (a = b) := by
  unfold eKeys; rw [eqvD]; exact eqvDs_dec eqv_str a b
theorem eqvs_keys (a b : List Str) : eqvDs (a.map D.str) (b.map D.str) = decide (a = b) := eqvDs_dec eqv_str a b
section
variable {P : Program} {w : World} {K : PySem.W.Frag} {mg : Str → Option Value} {base : Heap}
theorem ok_value_is_true (T : Tx K mg) : FnOk P w K mg base CX0 2 T.a_value_is_true T.d_value_is_true ["history", "piece"] (spD K C_value_is_true) :=
  DL.Fun.okD (N := ["history", "piece", "_", "key", "number", "value", "values"]) T.F_value_is_true sc_value_is_true (fun cdv A outer s H E hr => 
      (dss_cons (ds_asg (dv 1) (dg_tup [2, 3, 4, 5] rfl (pgs_cons (pg_name (i := 2) sc_value_is_true.nd rfl (by first | exact Or.inl rfl | exact Or.inr rfl)) (pgs_cons (pg_name (i := 3) sc_value_is_true.nd rfl (by first | exact Or.inl rfl | exact Or.inr rfl)) (pgs_cons (pg_name (i := 4) sc_value_is_true.nd rfl (by first | exact Or.inl rfl | exact Or.inr rfl)) (pgs_cons (pg_name (i := 5) sc_value_is_true.nd rfl (by first | exact Or.inl rfl | exact Or.inr rfl)) pgs_nil)))))) 
      (dss_cons (ds_set 6 sc_value_is_true.nd (de_call (ok_values_written T) (hr.mono (by decide)) (by rfl) T.m_values_written T.k_values_written T.v_values_written pass0 (da_cons (dv 0) (da_cons (dv 3) (da_cons (de_B L2.call_len cd_len (by rfl) T.b_len (by decide +kernel) (da_cons (dv 0) da_nil)) da_nil))))) 
      (dss_one (ds_ret (de_or (de_cmp op_ltD od_lt (dv 4) de_int (nomark _)) (de_or (de_cmp op_gtD od_gt (dv 4) (de_B L2.call_len cd_len (by rfl) T.b_len (by decide +kernel) (da_cons (dv 6) da_nil)) (nomark _)) (de_one (de_cmp (op_eqD hr.units) od_eq (de_ix ix_seq od_ix (dv 6) (de_op op_sub od_sub (dv 4) de_int) (fun _ _ => rfl)) (dv 5) (nomark _))))))))))
    (by intro ds μ Q h; unfold C_value_is_true at h; split at h <;> first | rfl | exact h.elim) (by
  intro ds μ Q h
  unfold C_value_is_true at h
  split at h
  · obtain ⟨hs, k, n, x, rfl, hb, rfl, hq⟩ := h
    unfold ePc eHist
    (walk_at "dl")
    refine ⟨hs, rfl, hb, by omega, ?_⟩
    (walk_at "dl")
    have et : hs.take ((hs.map eCom).length : Int).toNat = hs := by
      rw [List.length_map, Int.toNat_natCast, List.take_length]
    rw [et]
    unfold valTrue at hq
    simp only [List.length_map] at hq ⊢
    by_cases h1 : n < 1
    · simp only [h1, decide_true, Bool.true_or, if_true] at hq ⊢
      exact hq
    · by_cases h2 : n > (written hs k).length
      · simp only [h1, h2, decide_true, decide_false, Bool.true_or, Bool.false_or, if_true, if_false, Bool.false_eq_true] at hq ⊢
        exact hq
      · have h3 : ¬ ((written hs k).length : Int) < n := h2
        simp only [h1, h2, h3, decide_true, decide_false, Bool.true_or, Bool.false_or, if_true, if_false, Bool.false_eq_true] at hq ⊢
        rw [atI_map, getD_at (by omega) (by omega)]
        refine ⟨_, rfl, ?_⟩
        (walk_at "dl")
        rw [Bool.beq_eq_decide_eq]
        exact hq
  · exact h.elim
)

theorem ok_commit_is_true (T : Tx K mg) : FnOk P w K mg base CX0 2 T.a_commit_is_true T.d_commit_is_true ["history", "piece"] (spD K C_commit_is_true) :=
  DL.Fun.okD (N := ["history", "piece", "word", "version", "told", "keys", "key"]) T.F_commit_is_true sc_commit_is_true (fun cdv A outer s H E hr => 
      (dss_cons (ds_asg (dv 1) (dg_tup [2, 3, 4] rfl (pgs_cons (pg_name (i := 2) sc_commit_is_true.nd rfl (by first | exact Or.inl rfl | exact Or.inr rfl)) (pgs_cons (pg_name (i := 3) sc_commit_is_true.nd rfl (by first | exact Or.inl rfl | exact Or.inr rfl)) (pgs_cons (pg_name (i := 4) sc_commit_is_true.nd rfl (by first | exact Or.inl rfl | exact Or.inr rfl)) pgs_nil))))) 
      (dss_cons (ds_set 5 sc_commit_is_true.nd (de_call (ok_keys_written T) (hr.mono (by decide)) (by rfl) T.m_keys_written T.k_keys_written T.v_keys_written pass0 (da_cons (dv 0) (da_cons (dv 3) da_nil)))) 
      (dss_cons (ds_if (dt_cmp (op_eqD hr.units) od_eq (dv 2) (de_str) (nomark _)) 
      (dss_one (ds_ret (de_cmp (op_eqD hr.units) od_eq (dv 5) (dv 4) (nomark _)))) dss_nil) 
      (dss_cons (ds_if (dt_cmp (op_eqD hr.units) od_eq (dv 2) (de_str) (nomark _)) 
      (dss_one (ds_ret (de_cmp (op_eqD hr.units) od_eq (de_B L2.call_len cd_len (by rfl) T.b_len (by decide +kernel) (da_cons (dv 5) da_nil)) (dv 4) (nomark _)))) dss_nil) 
      (dss_cons (ds_if (dt_cmp (op_eqD hr.units) od_eq (dv 2) (de_str) (nomark _)) 
      (dss_one (ds_ret (de_cmp op_inD2 od_in (dv 4) (dv 5) (by rfl)))) dss_nil) 
      (dss_one (ds_ret (de_B (cr_all rfl) cd_all (by rfl) T.b_all (by decide +kernel) (da_cons (de_lc [("key", 6)] rfl sc_commit_is_true.nd (di_seq (dv 5)) (blkOk_by (sc := (defScope s_commit_is_true)) (own := [("key", 6)]) (N := ["history", "piece", "word", "version", "told", "keys", "key"]) (by decide +kernel)) (fun _ _ _ _ _ => (dg_name 6 sc_commit_is_true.nd)) (fun _ _ _ _ _ => dts_nil) (fun _ _ _ _ _ => (de_cmp op_inD2 od_in (dv 6) (dv 4) (by rfl)))) da_nil))))))))))
    (by intro ds μ Q h; unfold C_commit_is_true at h; split at h <;> first | rfl | exact h.elim) (by
  intro ds μ Q h
  unfold C_commit_is_true at h
  split at h
  · obtain ⟨hs, q, rfl, rfl, hc, ho, hq⟩ := h
    cases q <;> simp only [isComP, Bool.false_eq_true] at hc <;> unfold ePc <;> (walk_at "dl")
    · rename_i v ks
      refine ⟨hs, rfl, ho.2, ?_⟩
      (walk_at "dl")
      refine ⟨plain_keys _, plain_keys _, ?_⟩
      rw [eqv_keys]
      exact hq
    · rename_i v n
      refine ⟨hs, rfl, ho.2, ?_⟩
      unfold eKeys
      (walk_at "dl")
      rw [List.length_map]
      simp only [isTrueP] at hq
      rw [Bool.beq_eq_decide_eq]
      exact hq
    · rename_i v ks
      refine ⟨hs, rfl, ho.2, ?_⟩
      unfold eKeys
      refine lc_map (ds := (keysW hs v).map D.str) (fun d => match d with | .str k => .bl (decide (k ∈ ks)) | _ => .non) (seq_t fun R h => ?_) (fun d hd p acc hp N hN => ?_) ?_
      · (walk_at "dl")
        exact h
      · obtain ⟨k, hk, rfl⟩ := List.mem_map.mp hd
        (walk_at "dl")
        refine ⟨flat_strs ks, ?_⟩
        rw [any_str]
        exact hN _ rfl
      · (walk_at "dl")
        refine ⟨_, by rw [List.map_map]; exact bls_map (fun k => decide (k ∈ ks)) _, ?_⟩
        simpa [isTrueP, List.all_map, Function.comp_def] using hq
    · rename_i v k
      refine ⟨hs, rfl, ho.2, ?_⟩
      unfold eKeys
      (walk_at "dl")
      refine ⟨flat_strs _, ?_⟩
      rw [any_str]
      exact hq
  · exact h.elim
)

theorem ok_is_true (T : Tx K mg) : FnOk P w K mg base CX0 3 T.a_is_true T.d_is_true ["shelf", "history", "piece"] (spD K C_is_true) :=
  DL.Fun.okD (N := ["shelf", "history", "piece", "key", "_", "version", "number"]) T.F_is_true sc_is_true (fun cdv A outer s H E hr => 
      (dss_cons (ds_if (dt_not (dt_tru (de_B (cr_all rfl) cd_all (by rfl) T.b_all (by decide +kernel) (da_cons (de_lc [("key", 3)] rfl sc_is_true.nd (di_seq (de_call (ok_shelf_keys T) (hr.mono (by decide)) (by rfl) T.m_shelf_keys T.k_shelf_keys T.v_shelf_keys pass0 (da_cons (dv 2) da_nil))) (blkOk_by (sc := (defScope s_is_true)) (own := [("key", 3)]) (N := ["shelf", "history", "piece", "key", "_", "version", "number"]) (by decide +kernel)) (fun _ _ _ _ _ => (dg_name 3 sc_is_true.nd)) (fun _ _ _ _ _ => dts_nil) (fun _ _ _ _ _ => (de_cmp op_inD2 od_in (dv 3) (dv 0) (by rfl)))) da_nil)))) 
      (dss_one (ds_ret de_bl)) dss_nil) 
      (dss_cons (ds_if (dt_cmp (op_eqD hr.units) od_eq (de_ix ix_seq od_ix (dv 2) de_int (fun _ _ => rfl)) (de_str) (nomark _)) 
      (dss_one (ds_ret (de_call (ok_value_is_true T) (hr.mono (by decide)) (by rfl) T.m_value_is_true T.k_value_is_true T.v_value_is_true pass0 (da_cons (dv 1) (da_cons (dv 2) da_nil))))) dss_nil) 
      (dss_cons (ds_if (dt_cmp (op_eqD hr.units) od_eq (de_ix ix_seq od_ix (dv 2) de_int (fun _ _ => rfl)) (de_str) (nomark _)) 
      (dss_one (ds_ret (de_cmp op_leD od_le (de_ix ix_seq od_ix (dv 2) de_int (fun _ _ => rfl)) (de_B L2.call_len cd_len (by rfl) T.b_len (by decide +kernel) (da_cons (dv 1) da_nil)) (nomark _)))) dss_nil) 
      (dss_cons (ds_if (dt_cmp (op_eqD hr.units) od_eq (de_ix ix_seq od_ix (dv 2) de_int (fun _ _ => rfl)) (de_str) (nomark _)) 
      (dss_cons (ds_asg (dv 2) (dg_tup [4, 3, 5, 6] rfl (pgs_cons (pg_name (i := 4) sc_is_true.nd rfl (by first | exact Or.inl rfl | exact Or.inr rfl)) (pgs_cons (pg_name (i := 3) sc_is_true.nd rfl (by first | exact Or.inl rfl | exact Or.inr rfl)) (pgs_cons (pg_name (i := 5) sc_is_true.nd rfl (by first | exact Or.inl rfl | exact Or.inr rfl)) (pgs_cons (pg_name (i := 6) sc_is_true.nd rfl (by first | exact Or.inl rfl | exact Or.inr rfl)) pgs_nil)))))) 
      (dss_one (ds_ret (de_cmp (op_eqD hr.units) od_eq (de_call (ok_times_in T) (hr.mono (by decide)) (by rfl) T.m_times_in T.k_times_in T.v_times_in pass0 (da_cons (dv 1) (da_cons (dv 3) (da_cons (dv 5) da_nil)))) (dv 6) (nomark _))))) dss_nil) 
      (dss_one (ds_ret (de_call (ok_commit_is_true T) (hr.mono (by decide)) (by rfl) T.m_commit_is_true T.k_commit_is_true T.v_commit_is_true pass0 (da_cons (dv 1) (da_cons (dv 2) da_nil))))))))))
    (by intro ds μ Q h; unfold C_is_true at h; split at h <;> first | rfl | exact h.elim) (by
  intro ds μ Q h
  unfold C_is_true at h
  split at h
  · obtain ⟨sk, hs, q, rfl, rfl, hb, rfl, ho, hq⟩ := h
    (walk_at "dl")
    refine lc_map (ds := (shelfKeys q).map D.str) (fun d => match d with | .str k => .bl (decide (k ∈ sk)) | _ => .non) (seq_t fun R h => ?_) (fun d hd p acc hp N hN => ?_) ?_
    · (walk_at "dl")
      exact ⟨q, rfl, h⟩
    · obtain ⟨k, hk, rfl⟩ := List.mem_map.mp hd
      unfold eKeys
      (walk_at "dl")
      refine ⟨flat_strs sk, ?_⟩
      rw [any_str]
      exact hN _ rfl
    · (walk_at "dl")
      refine ⟨_, by rw [List.map_map]; exact bls_map (fun k => decide (k ∈ sk)) _, ?_⟩
      unfold isTrueS at hq
      have e : ((shelfKeys q).map fun k => decide (k ∈ sk)).all id = (shelfKeys q).all fun k => decide (k ∈ sk) := by simp [List.all_map, Function.comp_def]
      rw [e]
      cases hk : (shelfKeys q).all fun k => decide (k ∈ sk) with
      | false =>
        rw [hk, Bool.false_and] at hq
        (walk_at "dl")
        exact hq
      | true =>
        rw [hk, Bool.true_and] at hq
        cases q <;> unfold ePc <;> (walk_at "dl")
        · exact ⟨hs, _, rfl, rfl, rfl, ho, hq⟩
        · exact ⟨hs, _, rfl, rfl, rfl, ho, hq⟩
        · exact ⟨hs, _, rfl, rfl, rfl, ho, hq⟩
        · exact ⟨hs, _, rfl, rfl, rfl, ho, hq⟩
        · refine ⟨hs, rfl, hb, ho.1, ?_⟩
          (walk_at "dl")
          simp only [isTrueP] at hq
          rw [Bool.beq_eq_decide_eq]
          exact hq
        · exact ⟨hs, _, _, _, rfl, hb, rfl, hq⟩
        · unfold eHist
          (walk_at "dl")
          rw [List.length_map]
          exact hq
  · exact h.elim
)

end
end K43
end

-- part P3
section
local macro_rules | `(tactic| walk_at "dl") => `(tactic| simp only [DL.sRet, DL.sSeq, DL.sSet, DL.sIf, DL.sNext, DL.sNever, DL.sDrop, DL.sAsg, DL.sRetN, DL.dVar, DL.dC, DL.dOp, DL.dTest, DL.dAnd, DL.dOr, DL.dNot, DL.dTru, DL.dAndV, DL.dOrV, DL.dNotV, DL.dIf, DL.aNil, DL.aCons, DL.dTup, DL.dLst, DL.dLstM, DL.dCall, DL.dFrz, DL.dB, DL.dNeg, DL.dSl, DL.oNone, DL.oSome, DL.dChn, DL.gN, DL.gT, DL.setAll,
  DL.ix_l, DL.ix_t, DL.ix_s, DL.ix_p, DL.add_i, DL.add_s, DL.add_l, DL.add_t, DL.mul_i, DL.mul_b, DL.sub_i, DL.fdiv_i, DL.mod_i, DL.pow_i, DL.shl_i, DL.shr_i, DL.and_i, DL.lt_i, DL.le_i, DL.gt_i, DL.ge_i, DL.le_s, DL.in_t, DL.in_l, DL.in_s, DL.len_l, DL.len_t, DL.len_s, DL.len_p, DL.list_l, DL.list_t, DL.list_s, DL.list_p, DL.tuple_l, DL.tuple_t, DL.int_i, DL.int_b, DL.abs_i, DL.max_i, DL.min_i, DL.all_l, DL.any_l, DL.isi_1, DL.isi_n, DL.sl_l, DL.sl_t, DL.sl_s, DL.neg_i, DL.isN_i, DL.notN_i, DL.eq_x, DL.ne_x,
  DL.w_wrote_many, DL.w_wrote_many_b, DL.w_wrote_among, DL.w_wrote_among_b, DL.w_wrote_did, DL.w_wrote_did_b, DL.w_wrote_times, DL.w_wrote_times_b, DL.w_wrote_value, DL.w_wrote_value_b, DL.w_wrote_head, DL.w_wrote_head_b, DL.w_many_wrote, DL.w_many_wrote_b, DL.w_many_among, DL.w_many_among_b, DL.w_many_did, DL.w_many_did_b, DL.w_many_times, DL.w_many_times_b, DL.w_many_value, DL.w_many_value_b, DL.w_many_head, DL.w_many_head_b, DL.w_among_wrote, DL.w_among_wrote_b, DL.w_among_many, DL.w_among_many_b, DL.w_among_did, DL.w_among_did_b, DL.w_among_times, DL.w_among_times_b, DL.w_among_value, DL.w_among_value_b, DL.w_among_head, DL.w_among_head_b, DL.w_did_wrote, DL.w_did_wrote_b, DL.w_did_many, DL.w_did_many_b, DL.w_did_among, DL.w_did_among_b, DL.w_did_times, DL.w_did_times_b, DL.w_did_value, DL.w_did_value_b, DL.w_did_head, DL.w_did_head_b, DL.w_times_wrote, DL.w_times_wrote_b, DL.w_times_many, DL.w_times_many_b, DL.w_times_among, DL.w_times_among_b, DL.w_times_did, DL.w_times_did_b, DL.w_times_value, DL.w_times_value_b, DL.w_times_head, DL.w_times_head_b, DL.w_value_wrote, DL.w_value_wrote_b, DL.w_value_many, DL.w_value_many_b, DL.w_value_among, DL.w_value_among_b, DL.w_value_did, DL.w_value_did_b, DL.w_value_times, DL.w_value_times_b, DL.w_value_head, DL.w_value_head_b, DL.w_head_wrote, DL.w_head_wrote_b, DL.w_head_many, DL.w_head_many_b, DL.w_head_among, DL.w_head_among_b, DL.w_head_did, DL.w_head_did_b, DL.w_head_times, DL.w_head_times_b, DL.w_head_value, DL.w_head_value_b,
  DL.q_ss, DL.q_ii, DL.q_bb, DL.q_nn, DL.q_tt, DL.q_ll, DL.q_si, DL.q_sn, DL.q_st, DL.q_sl, DL.q_is, DL.q_in, DL.q_it, DL.q_il, DL.q_ns, DL.q_ni, DL.q_nt, DL.q_nl, DL.q_ts, DL.q_ti, DL.q_tn, DL.q_tl, DL.q_ls, DL.q_li, DL.q_ln, DL.q_lt, DL.qs_nil, DL.qs_cons, DL.qs_nc, DL.qs_cn, DL.p_t16, DL.p_l16, DL.p_t15, DL.p_l15, DL.p_t14, DL.p_l14, DL.p_t13, DL.p_l13, DL.p_t12, DL.p_l12, DL.p_s, DL.p_i, DL.p_b, DL.p_n, DL.ps_nil, DL.ps_cons, DL.t_b, DL.t_i, DL.t_l, DL.t_t, DL.t_n, DL.n_n, DL.n_i, DL.n_s, DL.n_t, DL.n_l, DL.n_b, DL.f_s, DL.f_i,
  Bool.false_and, Bool.and_false, DL.z0, DL.z1, DL.z2, DL.z3, DL.z4, DL.z5, DL.z6, DL.z12,
  DL.startD, DL.sFrz, DL.sApp, DL.yesD, DL.lcTurn, DL.wipeE, DL.at0, DL.at1, DL.at2, DL.at3, DL.at4, List.map_cons, List.map_nil, List.replicate_succ, List.replicate_zero, List.length_cons, List.length_nil, List.cons_append, List.nil_append, List.set_cons_zero, List.set_cons_succ, List.getElem?_cons_zero, List.getElem?_cons_succ, Option.some.injEq, exists_eq_left, exists_eq_left', exists_eq', exists_eq, true_and, and_true, decide_eq_true_eq, if_true, if_false, Bool.false_eq_true, reduceIte, Nat.reduceAdd, Nat.reduceSub, DL.D.bl.injEq, DL.D.int.injEq, DL.D.str.injEq, DL.D.tup.injEq, DL.D.lst.injEq, DL.D.ptr.injEq, Bool.not_true, Bool.not_false, beq_self_eq_true, List.all_cons, List.all_nil, List.any_cons, List.any_nil, Bool.and_true, Bool.true_and, Bool.or_false, Bool.false_or, Bool.or_true, Bool.true_or, Bool.false_xor, Bool.true_xor, beq_iff_eq, Bool.not_eq_true, Int.reduceEq, Int.reduceBEq, and_self])

namespace K43
open PySem L2 DL
theorem lt_irr (a : Str) : ¬ a.cps.toList < a.cps.toList := List.lt_irrefl _
theorem lt_asy {a b : Str} (h : a.cps.toList < b.cps.toList) : ¬ b.cps.toList < a.cps.toList := fun h' => lt_irr a (List.lt_trans h h')
theorem sorted_uniq : ∀ {l m : List Str}, SortedS l → SortedS m → (∀ k, k ∈ l ↔ k ∈ m) → l = m
  | [], [], _, _, _ => rfl
  | [], b :: m, _, _, h => by have := (h b).mpr (by simp); simp at this
  | a :: l, [], _, _, h => by have := (h a).mp (by simp); simp at this
  | a :: l, b :: m, hl, hm, h => by
    obtain ⟨l1, l2⟩ := List.pairwise_cons.mp hl
    obtain ⟨m1, m2⟩ := List.pairwise_cons.mp hm
    have e : a = b := by
      have ha := (h a).mp (by simp)
      have hb := (h b).mpr (by simp)
      rcases List.mem_cons.mp ha with e | ha
      · exact e
      · rcases List.mem_cons.mp hb with e | hb
        · exact e.symm
        · exact absurd (l1 b hb) (lt_asy (m1 a ha))
    subst e
    rw [sorted_uniq l2 m2 fun k => ?_]
    constructor
    · intro hk
      have := (h k).mp (by simp [hk])
      rcases List.mem_cons.mp this with e | hk'
      · subst e; exact absurd (l1 k hk) (lt_irr k)
      · exact hk'
    · intro hk
      have := (h k).mpr (by simp [hk])
      rcases List.mem_cons.mp this with e | hk'
      · subst e; exact absurd (m1 k hk) (lt_irr k)
      · exact hk'
theorem keys_com (cm : Com) : (cm.map ePair).map (fun p => match p with | .tup (k :: _) => k | _ => D.non) = (keysOf cm).map D.str := by
  unfold keysOf
  rw [List.map_map, List.map_map]
  rfl
section
variable {P : Program} {w : World} {K : PySem.W.Frag} {mg : Str → Option Value} {base : Heap}
theorem ok_is_commit (T : Tx K mg) : FnOk P w K mg base CX0 1 T.a_is_commit T.d_is_commit ["shelf", "commit"] (spD K C_is_commit) :=
  DL.Fun.okD (N := ["shelf", "commit", "keys", "key", "_"]) T.F_is_commit sc_is_commit (fun cdv A outer s H E hr => 
      (dss_cons (ds_setLc 2 [("key", 3), ("_", 4)] rfl sc_is_commit.nd (sw_true rfl rfl rfl (by decide +kernel)) (di_seq (dv 1)) (blkOk_by (sc := (defScope s_is_commit)) (own := [("key", 3), ("_", 4)]) (N := ["shelf", "commit", "keys", "key", "_"]) (by decide +kernel)) (fun _ _ _ _ _ => (dg_tup [3, 4] rfl (pgs_cons (pg_name (i := 3) sc_is_commit.nd rfl (by first | exact Or.inl rfl | exact Or.inr rfl)) (pgs_cons (pg_name (i := 4) sc_is_commit.nd rfl (by first | exact Or.inl rfl | exact Or.inr rfl)) pgs_nil)))) (fun _ _ _ _ _ => dts_nil) (fun _ _ _ _ _ => (dv 3))) 
      (dss_one (ds_ret (de_and (de_cmp op_gtD od_gt (de_B L2.call_len cd_len (by rfl) T.b_len (by decide +kernel) (da_cons (dv 2) da_nil)) de_int (nomark _)) (de_and (de_cmp (op_eqD hr.units) od_eq (dv 2) (de_sortedSet T.b_sorted T.b_set (dv 2)) (nomark _)) (de_one (de_B (cr_all rfl) cd_all (by rfl) T.b_all (by decide +kernel) (da_cons (de_lc [("key", 3)] rfl sc_is_commit.nd (di_seq (dv 2)) (blkOk_by (sc := (defScope s_is_commit)) (own := [("key", 3)]) (N := ["shelf", "commit", "keys", "key", "_"]) (by decide +kernel)) (fun _ _ _ _ _ => (dg_name 3 sc_is_commit.nd)) (fun _ _ _ _ _ => dts_nil) (fun _ _ _ _ _ => (de_cmp op_inD2 od_in (dv 3) (dv 0) (by rfl)))) da_nil)))))))))
    (by intro ds μ Q h; unfold C_is_commit at h; split at h <;> first | rfl | exact h.elim) (by
  intro ds μ Q h
  unfold C_is_commit at h
  split at h
  · obtain ⟨sk, cm, rfl, rfl, hl, hq⟩ := h
    unfold eCom
    (walk_at "dl")
    refine lc_map (ds := cm.map ePair) (fun p => match p with | .tup (k :: _) => k | _ => .non) (seq_t fun R h => ?_) (fun d hd p2 acc2 hp2 N2 hN2 => ?_) ?_
    · (walk_at "dl")
      exact h
    · obtain ⟨pr, hpr, rfl⟩ := List.mem_map.mp hd
      unfold ePair
      (walk_at "dl")
      exact hN2 _ rfl
    · rw [keys_com]
      (walk_at "dl")
      simp only [List.length_map]
      by_cases h0 : (0 : Int) < (keysOf cm).length
      · simp only [h0, decide_true, if_true]
        unfold dSortS
        (walk_at "dl")
        refine ⟨_, _, rfl, strs_map _, by unfold keysOf; rw [List.length_map]; exact hl, fun ys hs hm => ⟨plains_keys _ _, plains_keys _ _, ?_⟩⟩
        have e0 : cm ≠ [] := fun e => by subst e; simp [keysOf] at h0
        rw [eqvs_keys]
        by_cases e : keysOf cm = ys
        · simp only [e, decide_true, if_true]
          have hs' : SortedS (keysOf cm) := by rw [e]; exact hs
          refine lc_map (ds := ys.map D.str) (fun d => match d with | .str k => .bl (decide (k ∈ sk)) | _ => .non) (seq_l fun R h => ?_) (fun d hd p acc hp N hN => ?_) ?_
          · (walk_at "dl")
            exact h
          · obtain ⟨k, hk, rfl⟩ := List.mem_map.mp hd
            unfold eKeys
            (walk_at "dl")
            refine ⟨flat_strs sk, ?_⟩
            rw [any_str]
            exact hN _ rfl
          · (walk_at "dl")
            refine ⟨_, by rw [List.map_map]; exact bls_map (fun k => decide (k ∈ sk)) _, ?_⟩
            refine hq _ ?_
            rw [List.all_map]
            unfold isCom
            rw [e] at hs' ⊢
            simp [e0, hs']
        · simp only [e, decide_false, Bool.false_eq_true, if_false]
          refine hq _ ?_
          simp only [Bool.false_eq_true, false_iff]
          exact fun hc => e (sorted_uniq hc.2.1 hs fun k => (hm k).symm)
      · simp only [h0, decide_false, Bool.false_eq_true, if_false]
        refine hq _ ?_
        simp only [Bool.false_eq_true, false_iff]
        rintro ⟨h1, _⟩
        cases cm with
        | nil => exact h1 rfl
        | cons a l => simp [keysOf] at h0
  · exact h.elim
)

end
end K43
end

-- part P4
section
local macro_rules | `(tactic| walk_at "dl") => `(tactic| simp only [DL.sRet, DL.sSeq, DL.sSet, DL.sIf, DL.sNext, DL.sNever, DL.sDrop, DL.sAsg, DL.sRetN, DL.dVar, DL.dC, DL.dOp, DL.dTest, DL.dAnd, DL.dOr, DL.dNot, DL.dTru, DL.dAndV, DL.dOrV, DL.dNotV, DL.dIf, DL.aNil, DL.aCons, DL.dTup, DL.dLst, DL.dLstM, DL.dCall, DL.dFrz, DL.dB, DL.dNeg, DL.dSl, DL.oNone, DL.oSome, DL.dChn, DL.gN, DL.gT, DL.setAll,
  DL.ix_l, DL.ix_t, DL.ix_s, DL.ix_p, DL.add_i, DL.add_s, DL.add_l, DL.add_t, DL.mul_i, DL.mul_b, DL.sub_i, DL.fdiv_i, DL.mod_i, DL.pow_i, DL.shl_i, DL.shr_i, DL.and_i, DL.lt_i, DL.le_i, DL.gt_i, DL.ge_i, DL.le_s, DL.in_t, DL.in_l, DL.in_s, DL.len_l, DL.len_t, DL.len_s, DL.len_p, DL.list_l, DL.list_t, DL.list_s, DL.list_p, DL.tuple_l, DL.tuple_t, DL.int_i, DL.int_b, DL.abs_i, DL.max_i, DL.min_i, DL.all_l, DL.any_l, DL.isi_1, DL.isi_n, DL.sl_l, DL.sl_t, DL.sl_s, DL.neg_i, DL.isN_i, DL.notN_i, DL.eq_x, DL.ne_x,
  DL.w_wrote_many, DL.w_wrote_many_b, DL.w_wrote_among, DL.w_wrote_among_b, DL.w_wrote_did, DL.w_wrote_did_b, DL.w_wrote_times, DL.w_wrote_times_b, DL.w_wrote_value, DL.w_wrote_value_b, DL.w_wrote_head, DL.w_wrote_head_b, DL.w_many_wrote, DL.w_many_wrote_b, DL.w_many_among, DL.w_many_among_b, DL.w_many_did, DL.w_many_did_b, DL.w_many_times, DL.w_many_times_b, DL.w_many_value, DL.w_many_value_b, DL.w_many_head, DL.w_many_head_b, DL.w_among_wrote, DL.w_among_wrote_b, DL.w_among_many, DL.w_among_many_b, DL.w_among_did, DL.w_among_did_b, DL.w_among_times, DL.w_among_times_b, DL.w_among_value, DL.w_among_value_b, DL.w_among_head, DL.w_among_head_b, DL.w_did_wrote, DL.w_did_wrote_b, DL.w_did_many, DL.w_did_many_b, DL.w_did_among, DL.w_did_among_b, DL.w_did_times, DL.w_did_times_b, DL.w_did_value, DL.w_did_value_b, DL.w_did_head, DL.w_did_head_b, DL.w_times_wrote, DL.w_times_wrote_b, DL.w_times_many, DL.w_times_many_b, DL.w_times_among, DL.w_times_among_b, DL.w_times_did, DL.w_times_did_b, DL.w_times_value, DL.w_times_value_b, DL.w_times_head, DL.w_times_head_b, DL.w_value_wrote, DL.w_value_wrote_b, DL.w_value_many, DL.w_value_many_b, DL.w_value_among, DL.w_value_among_b, DL.w_value_did, DL.w_value_did_b, DL.w_value_times, DL.w_value_times_b, DL.w_value_head, DL.w_value_head_b, DL.w_head_wrote, DL.w_head_wrote_b, DL.w_head_many, DL.w_head_many_b, DL.w_head_among, DL.w_head_among_b, DL.w_head_did, DL.w_head_did_b, DL.w_head_times, DL.w_head_times_b, DL.w_head_value, DL.w_head_value_b,
  DL.q_ss, DL.q_ii, DL.q_bb, DL.q_nn, DL.q_tt, DL.q_ll, DL.q_si, DL.q_sn, DL.q_st, DL.q_sl, DL.q_is, DL.q_in, DL.q_it, DL.q_il, DL.q_ns, DL.q_ni, DL.q_nt, DL.q_nl, DL.q_ts, DL.q_ti, DL.q_tn, DL.q_tl, DL.q_ls, DL.q_li, DL.q_ln, DL.q_lt, DL.qs_nil, DL.qs_cons, DL.qs_nc, DL.qs_cn, DL.p_t16, DL.p_l16, DL.p_t15, DL.p_l15, DL.p_t14, DL.p_l14, DL.p_t13, DL.p_l13, DL.p_t12, DL.p_l12, DL.p_s, DL.p_i, DL.p_b, DL.p_n, DL.ps_nil, DL.ps_cons, DL.t_b, DL.t_i, DL.t_l, DL.t_t, DL.t_n, DL.n_n, DL.n_i, DL.n_s, DL.n_t, DL.n_l, DL.n_b, DL.f_s, DL.f_i,
  Bool.false_and, Bool.and_false, DL.z0, DL.z1, DL.z2, DL.z3, DL.z4, DL.z5, DL.z6, DL.z12,
  DL.startD, DL.sFrz, DL.sApp, DL.yesD, DL.lcTurn, DL.wipeE, DL.at0, DL.at1, DL.at2, DL.at3, DL.at4, List.map_cons, List.map_nil, List.replicate_succ, List.replicate_zero, List.length_cons, List.length_nil, List.cons_append, List.nil_append, List.set_cons_zero, List.set_cons_succ, List.getElem?_cons_zero, List.getElem?_cons_succ, Option.some.injEq, exists_eq_left, exists_eq_left', exists_eq', exists_eq, true_and, and_true, decide_eq_true_eq, if_true, if_false, Bool.false_eq_true, reduceIte, Nat.reduceAdd, Nat.reduceSub, DL.D.bl.injEq, DL.D.int.injEq, DL.D.str.injEq, DL.D.tup.injEq, DL.D.lst.injEq, DL.D.ptr.injEq, Bool.not_true, Bool.not_false, beq_self_eq_true, List.all_cons, List.all_nil, List.any_cons, List.any_nil, Bool.and_true, Bool.true_and, Bool.or_false, Bool.false_or, Bool.or_true, Bool.true_or, Bool.false_xor, Bool.true_xor, beq_iff_eq, Bool.not_eq_true, Int.reduceEq, Int.reduceBEq, and_self])

namespace K43
open PySem L2 DL
theorem clash_iff (ns : List Pc) : clash ns = true ↔ ∃ k n x x', Pc.value k n x ∈ ns ∧ Pc.value k n x' ∈ ns ∧ x' ≠ x := by
  unfold clash
  rw [List.any_eq_true]
  constructor
  · rintro ⟨p, hp, h⟩
    obtain ⟨o, ho, h'⟩ := List.any_eq_true.mp h
    clear h
    cases p <;> cases o <;> (try (simp only [clash1, Bool.false_eq_true] at h')) <;> (try (exact h'.elim))
    simp only [Bool.and_eq_true, decide_eq_true_eq] at h'
    obtain ⟨⟨rfl, rfl⟩, h2⟩ := h'
    exact ⟨_, _, _, _, hp, ho, h2⟩
  · rintro ⟨k, n, x, x', h1, h2, h3⟩
    exact ⟨_, h1, List.any_eq_true.mpr ⟨_, h2, by simp [clash1, h3]⟩⟩
def tri : Pc → Option (Str × Int × Int)
  | .value k n x => some (k, n, x)
  | _ => none
/-- what the dict holds behind a part of the news -/
def ToldOk (pre : List (Str × Int × Int)) (kvs : List (List Key × D)) : Prop := kvs.length ≤ pre.length ∧ (∀ k n x, (k, n, x) ∈ pre → lookD kvs [Sum.inr k, Sum.inl n] = some (.int x)) ∧
  ∀ k n, (∀ x, (k, n, x) ∉ pre) → lookD kvs [Sum.inr k, Sum.inl n] = none
theorem lookD_snoc {kvs : List (List Key × D)} {ks j : List Key} {d : D} (h : lookD kvs ks = none) : lookD (kvs ++ [(ks, d)]) j = if j = ks then some d else lookD kvs j := by
  unfold lookD at h ⊢
  rw [List.find?_append]
  by_cases e : j = ks
  · subst e
    rw [if_pos rfl]
    cases q : kvs.find? (fun kv => decide (kv.1 = j)) with
    | none => simp [List.find?_cons]
    | some p => rw [q] at h; cases h
  · rw [if_neg e]
    cases q : kvs.find? (fun kv => decide (kv.1 = j)) with
    | none => simp [List.find?_cons, Ne.symm e]
    | some p => rfl
section
variable {P : Program} {w : World} {K : PySem.W.Frag} {mg : Str → Option Value} {base : Heap}
theorem ok_differ (T : Tx K mg) : FnOk P w K mg base CX0 1 T.a_differ T.d_differ ["told"] (spD K C_differ) :=
  DL.Fun.okDf (N := ["told", "first", "thing", "what"]) T.F_differ sc_differ (fun cdv A outer s H E hr => 
      (dss_cons (ds_set 1 sc_differ.nd de_dT) 
      (dss_cons (ds_for PassesOwn.never rfl (di_seq (dv 0)) (dg_tup [2, 3] rfl (pgs_cons (pg_name (i := 2) sc_differ.nd rfl (by first | exact Or.inl rfl | exact Or.inr rfl)) (pgs_cons (pg_name (i := 3) sc_differ.nd rfl (by first | exact Or.inl rfl | exact Or.inr rfl)) pgs_nil))) 
      (dss_one (ds_if (dt_cmp (op_neD hr.units) od_ne (de_setd hr (dv 1) (dv 2) (dv 3)) (dv 3) (nomark _)) 
      (dss_one (ds_ret de_bl)) dss_nil))) 
      (dss_one (ds_ret de_bl)))))
    (by intro ds μ Q h; unfold C_differ at h; split at h <;> first | rfl | exact h.elim) (by
  intro ds μ Q h
  unfold C_differ at h
  split at h
  · obtain ⟨ts, rfl, hl, hq⟩ := h
    (walk_at "dl")
    unfold dNewT
    intro p hp
    refine for_map eT1 ts (fun pre ρ' μ' => (∃ a b, ρ' = [some (eTold ts), some (.ptr p), a, b]) ∧ ∃ kvs, μ' = μ.put p (.dT kvs) ∧ ToldOk pre kvs) (seq_l fun R h => ?_) ⟨⟨_, _, rfl⟩, [], rfl, Nat.le_refl _, fun _ _ _ h => (by simp at h), fun _ _ _ => rfl⟩ (fun pre q post ρ' μ' e hI => ?_) fun ρ' μ' hI => ?_
    · (walk_at "dl")
      exact h
    · obtain ⟨⟨a, b, rfl⟩, kvs, rfl, h1, h2, h3⟩ := hI
      have hlp : pre.length < 1000 := by
        have := congrArg List.length e
        simp at this
        omega
      obtain ⟨k, n, x⟩ := q
      unfold eT1
      (walk_at "dl")
      unfold dSetdT
      (walk_at "dl")
      refine ⟨p, kvs, rfl, Mu.put_same, ?_⟩
      refine ⟨kvs, _, _, Mu.put_same, rfl, rfl, sz_small' (by omega), ?_⟩
      by_cases hx : ∃ y, (k, n, y) ∈ pre
      · obtain ⟨y, hy⟩ := hx
        have hL := h2 k n y hy
        simp only [hL]
        (walk_at "dl")
        by_cases hxy : y = x
        · subst hxy
          (walk_at "dl")
          refine ⟨⟨_, _, rfl⟩, kvs, rfl, by simp; omega, fun k' n' x' hm => ?_, fun k' n' hm => ?_⟩
          · rcases List.mem_append.mp hm with hm | hm
            · exact h2 k' n' x' hm
            · simp at hm
              obtain ⟨rfl, rfl, rfl⟩ := hm
              exact hL
          · exact h3 k' n' fun x' hx' => hm x' (by simp [hx'])
        · have : (y == x) = false := by simp [hxy]
          simp only [this]
          (walk_at "dl")
          refine ⟨μ, Sub.put hp, hq true ?_⟩
          simp only [true_iff]
          rw [e]
          exact ⟨k, n, x, y, by simp, by simp [hy], hxy⟩
      · have hn : ∀ x, (k, n, x) ∉ pre := fun x hx' => hx ⟨x, hx'⟩
        have hL := h3 k n hn
        simp only [hL]
        refine ⟨⟨_, _, rfl⟩, _, Mu.put_put, by simp; omega, fun k' n' x' hm => ?_, fun k' n' hm => ?_⟩
        · rw [lookD_snoc hL]
          rcases List.mem_append.mp hm with hm1 | hm
          · by_cases hk : k' = k ∧ n' = n
            · obtain ⟨rfl, rfl⟩ := hk
              exact absurd hm1 (hn x')
            · rw [if_neg (by simpa using hk)]
              exact h2 k' n' x' hm1
          · simp at hm
            obtain ⟨rfl, rfl, rfl⟩ := hm
            rw [if_pos rfl]
        · rw [lookD_snoc hL]
          by_cases hk : k' = k ∧ n' = n
          · obtain ⟨rfl, rfl⟩ := hk
            exact absurd (by simp) (hm x)
          · rw [if_neg (by simpa using hk)]
            exact h3 k' n' fun x' hx' => hm x' (by simp [hx'])
    · obtain ⟨_, kvs, rfl, h1, h2, h3⟩ := hI
      (walk_at "dl")
      refine ⟨μ, Sub.put hp, hq false ?_⟩
      simp only [Bool.false_eq_true, false_iff]
      rintro ⟨k, n, x, x', m1, m2, hx⟩
      have e1 := h2 k n x m1
      rw [h2 k n x' m2] at e1
      simp at e1
      exact hx e1
  · exact h.elim
)

theorem ok_tells_two_values (T : Tx K mg) : FnOk P w K mg base CX0 2 T.a_tells_two_values T.d_tells_two_values ["news"] (spD K C_tells_two_values) :=
  DL.Fun.okD (N := ["news", "piece"]) T.F_tells_two_values sc_tells_two_values (fun cdv A outer s H E hr => 
      (dss_one (ds_ret (de_call (ok_differ T) (hr.mono (by decide)) (by rfl) T.m_differ T.k_differ T.v_differ pass0 (da_cons (de_lc [("piece", 1)] rfl sc_tells_two_values.nd (di_seq (dv 0)) (blkOk_by (sc := (defScope s_tells_two_values)) (own := [("piece", 1)]) (N := ["news", "piece"]) (by decide +kernel)) (fun _ _ _ _ _ => (dg_name 1 sc_tells_two_values.nd)) (fun _ _ _ _ _ => dts_one (dt_cmp (op_eqD hr.units) od_eq (de_ix ix_seq od_ix (dv 1) de_int (fun _ _ => rfl)) (de_str) (nomark _))) (fun _ _ _ _ _ => (de_tup (da_cons (de_tup (da_cons (de_ix ix_seq od_ix (dv 1) de_int (fun _ _ => rfl)) (da_cons (de_ix ix_seq od_ix (dv 1) de_int (fun _ _ => rfl)) da_nil))) (da_cons (de_ix ix_seq od_ix (dv 1) de_int (fun _ _ => rfl)) da_nil))))) da_nil)))))
    (by intro ds μ Q h; unfold C_tells_two_values at h; split at h <;> first | rfl | exact h.elim) (by
  intro ds μ Q h
  unfold C_tells_two_values at h
  split at h
  · obtain ⟨ns, rfl, hl, hq⟩ := h
    (walk_at "dl")
    refine lc_fmapT ns ePc toldOf (seq_l fun R h => ?_) (fun q hm p acc hp N hN => ?_) ?_
    · (walk_at "dl")
      exact h
    · cases q <;> unfold ePc <;> (walk_at "dl") <;> exact hN _ rfl
    · unfold C_differ
      have e : ∀ l : List Pc, l.filterMap toldOf = (l.filterMap tri).map eT1 := by
        intro l
        rw [List.map_filterMap]
        congr 1
        funext q
        cases q <;> rfl
      have m : ∀ k n x, (k, n, x) ∈ ns.filterMap tri ↔ Pc.value k n x ∈ ns := by
        intro k n x
        rw [List.mem_filterMap]
        constructor
        · rintro ⟨q, hq1, hq2⟩
          cases q <;> simp [tri] at hq2
          obtain ⟨rfl, rfl, rfl⟩ := hq2
          exact hq1
        · intro hm
          exact ⟨_, hm, rfl⟩
      refine ⟨ns.filterMap tri, by rw [e]; rfl, Nat.le_trans (List.length_filterMap_le ..) hl, fun b hb => hq b (hb.trans ?_)⟩
      rw [clash_iff]
      simp only [m]
  · exact h.elim
)

end
end K43
end

-- part P5
section
local macro_rules | `(tactic| walk_at "dl") => `(tactic| simp only [DL.sRet, DL.sSeq, DL.sSet, DL.sIf, DL.sNext, DL.sNever, DL.sDrop, DL.sAsg, DL.sRetN, DL.dVar, DL.dC, DL.dOp, DL.dTest, DL.dAnd, DL.dOr, DL.dNot, DL.dTru, DL.dAndV, DL.dOrV, DL.dNotV, DL.dIf, DL.aNil, DL.aCons, DL.dTup, DL.dLst, DL.dLstM, DL.dCall, DL.dFrz, DL.dB, DL.dNeg, DL.dSl, DL.oNone, DL.oSome, DL.dChn, DL.gN, DL.gT, DL.setAll,
  DL.ix_l, DL.ix_t, DL.ix_s, DL.ix_p, DL.add_i, DL.add_s, DL.add_l, DL.add_t, DL.mul_i, DL.mul_b, DL.sub_i, DL.fdiv_i, DL.mod_i, DL.pow_i, DL.shl_i, DL.shr_i, DL.and_i, DL.lt_i, DL.le_i, DL.gt_i, DL.ge_i, DL.le_s, DL.in_t, DL.in_l, DL.in_s, DL.len_l, DL.len_t, DL.len_s, DL.len_p, DL.list_l, DL.list_t, DL.list_s, DL.list_p, DL.tuple_l, DL.tuple_t, DL.int_i, DL.int_b, DL.abs_i, DL.max_i, DL.min_i, DL.all_l, DL.any_l, DL.isi_1, DL.isi_n, DL.sl_l, DL.sl_t, DL.sl_s, DL.neg_i, DL.isN_i, DL.notN_i, DL.eq_x, DL.ne_x,
  DL.w_wrote_many, DL.w_wrote_many_b, DL.w_wrote_among, DL.w_wrote_among_b, DL.w_wrote_did, DL.w_wrote_did_b, DL.w_wrote_times, DL.w_wrote_times_b, DL.w_wrote_value, DL.w_wrote_value_b, DL.w_wrote_head, DL.w_wrote_head_b, DL.w_many_wrote, DL.w_many_wrote_b, DL.w_many_among, DL.w_many_among_b, DL.w_many_did, DL.w_many_did_b, DL.w_many_times, DL.w_many_times_b, DL.w_many_value, DL.w_many_value_b, DL.w_many_head, DL.w_many_head_b, DL.w_among_wrote, DL.w_among_wrote_b, DL.w_among_many, DL.w_among_many_b, DL.w_among_did, DL.w_among_did_b, DL.w_among_times, DL.w_among_times_b, DL.w_among_value, DL.w_among_value_b, DL.w_among_head, DL.w_among_head_b, DL.w_did_wrote, DL.w_did_wrote_b, DL.w_did_many, DL.w_did_many_b, DL.w_did_among, DL.w_did_among_b, DL.w_did_times, DL.w_did_times_b, DL.w_did_value, DL.w_did_value_b, DL.w_did_head, DL.w_did_head_b, DL.w_times_wrote, DL.w_times_wrote_b, DL.w_times_many, DL.w_times_many_b, DL.w_times_among, DL.w_times_among_b, DL.w_times_did, DL.w_times_did_b, DL.w_times_value, DL.w_times_value_b, DL.w_times_head, DL.w_times_head_b, DL.w_value_wrote, DL.w_value_wrote_b, DL.w_value_many, DL.w_value_many_b, DL.w_value_among, DL.w_value_among_b, DL.w_value_did, DL.w_value_did_b, DL.w_value_times, DL.w_value_times_b, DL.w_value_head, DL.w_value_head_b, DL.w_head_wrote, DL.w_head_wrote_b, DL.w_head_many, DL.w_head_many_b, DL.w_head_among, DL.w_head_among_b, DL.w_head_did, DL.w_head_did_b, DL.w_head_times, DL.w_head_times_b, DL.w_head_value, DL.w_head_value_b,
  DL.q_ss, DL.q_ii, DL.q_bb, DL.q_nn, DL.q_tt, DL.q_ll, DL.q_si, DL.q_sn, DL.q_st, DL.q_sl, DL.q_is, DL.q_in, DL.q_it, DL.q_il, DL.q_ns, DL.q_ni, DL.q_nt, DL.q_nl, DL.q_ts, DL.q_ti, DL.q_tn, DL.q_tl, DL.q_ls, DL.q_li, DL.q_ln, DL.q_lt, DL.qs_nil, DL.qs_cons, DL.qs_nc, DL.qs_cn, DL.p_t16, DL.p_l16, DL.p_t15, DL.p_l15, DL.p_t14, DL.p_l14, DL.p_t13, DL.p_l13, DL.p_t12, DL.p_l12, DL.p_s, DL.p_i, DL.p_b, DL.p_n, DL.ps_nil, DL.ps_cons, DL.t_b, DL.t_i, DL.t_l, DL.t_t, DL.t_n, DL.n_n, DL.n_i, DL.n_s, DL.n_t, DL.n_l, DL.n_b, DL.f_s, DL.f_i,
  Bool.false_and, Bool.and_false, DL.z0, DL.z1, DL.z2, DL.z3, DL.z4, DL.z5, DL.z6, DL.z12,
  DL.startD, DL.sFrz, DL.sApp, DL.yesD, DL.lcTurn, DL.wipeE, DL.at0, DL.at1, DL.at2, DL.at3, DL.at4, List.map_cons, List.map_nil, List.replicate_succ, List.replicate_zero, List.length_cons, List.length_nil, List.cons_append, List.nil_append, List.set_cons_zero, List.set_cons_succ, List.getElem?_cons_zero, List.getElem?_cons_succ, Option.some.injEq, exists_eq_left, exists_eq_left', exists_eq', exists_eq, true_and, and_true, decide_eq_true_eq, if_true, if_false, Bool.false_eq_true, reduceIte, Nat.reduceAdd, Nat.reduceSub, DL.D.bl.injEq, DL.D.int.injEq, DL.D.str.injEq, DL.D.tup.injEq, DL.D.lst.injEq, DL.D.ptr.injEq, Bool.not_true, Bool.not_false, beq_self_eq_true, List.all_cons, List.all_nil, List.any_cons, List.any_nil, Bool.and_true, Bool.true_and, Bool.or_false, Bool.false_or, Bool.or_true, Bool.true_or, Bool.false_xor, Bool.true_xor, beq_iff_eq, Bool.not_eq_true, Int.reduceEq, Int.reduceBEq, and_self])

namespace K43
open PySem L2 DL
open Classical in
noncomputable def isComB (sk : List Str) (c : Com) : Bool := decide (isCom sk c)
theorem isComB_iff (sk : List Str) (c : Com) : isComB sk c = true ↔ isCom sk c := by unfold isComB; simp
section
variable {P : Program} {w : World} {K : PySem.W.Frag} {mg : Str → Option Value} {base : Heap}
theorem ok_agrees (T : Tx K mg) : FnOk P w K mg base CX0 4 T.a_agrees T.d_agrees ["shelf", "history", "news"] (spD K C_agrees) :=
  DL.Fun.okD (N := ["shelf", "history", "news", "commit", "piece"]) T.F_agrees sc_agrees (fun cdv A outer s H E hr => 
      (dss_cons (ds_if (dt_not (dt_tru (de_B (cr_all rfl) cd_all (by rfl) T.b_all (by decide +kernel) (da_cons (de_lc [("commit", 3)] rfl sc_agrees.nd (di_seq (dv 1)) (blkOk_by (sc := (defScope s_agrees)) (own := [("commit", 3)]) (N := ["shelf", "history", "news", "commit", "piece"]) (by decide +kernel)) (fun _ _ _ _ _ => (dg_name 3 sc_agrees.nd)) (fun _ _ _ _ _ => dts_nil) (fun _ _ _ _ _ => (de_call (ok_is_commit T) (hr.mono (by decide)) (by rfl) T.m_is_commit T.k_is_commit T.v_is_commit pass0 (da_cons (dv 0) (da_cons (dv 3) da_nil))))) da_nil)))) 
      (dss_one (ds_ret de_bl)) dss_nil) 
      (dss_cons (ds_if (dw_pt (dw_or (dt_cmp (op_neD hr.units) od_ne (de_B L2.call_len cd_len (by rfl) T.b_len (by decide +kernel) (da_cons (dv 1) da_nil)) (de_call (ok_head_of T) (hr.mono (by decide)) (by rfl) T.m_head_of T.k_head_of T.v_head_of pass0 (da_cons (dv 2) da_nil)) (nomark _)) (dw_or1 (dt_tru (de_call (ok_tells_two_values T) (hr.mono (by decide)) (by rfl) T.m_tells_two_values T.k_tells_two_values T.v_tells_two_values pass0 (da_cons (dv 2) da_nil)))))) 
      (dss_one (ds_ret de_bl)) dss_nil) 
      (dss_one (ds_ret (de_B (cr_all rfl) cd_all (by rfl) T.b_all (by decide +kernel) (da_cons (de_lc [("piece", 4)] rfl sc_agrees.nd (di_seq (dv 2)) (blkOk_by (sc := (defScope s_agrees)) (own := [("piece", 4)]) (N := ["shelf", "history", "news", "commit", "piece"]) (by decide +kernel)) (fun _ _ _ _ _ => (dg_name 4 sc_agrees.nd)) (fun _ _ _ _ _ => dts_nil) (fun _ _ _ _ _ => (de_call (ok_is_true T) (hr.mono (by decide)) (by rfl) T.m_is_true T.k_is_true T.v_is_true pass0 (da_cons (dv 0) (da_cons (dv 1) (da_cons (dv 4) da_nil)))))) da_nil)))))))
    (by intro ds μ Q h; unfold C_agrees at h; split at h <;> first | rfl | exact h.elim) (by
  intro ds μ Q h
  unfold C_agrees at h
  split at h
  · obtain ⟨sk, hs, ns, rfl, rfl, rfl, hl, hc, hn, ho, hq⟩ := h
    (walk_at "dl")
    refine lc_mapT hs eCom (fun c => .bl (isComB sk c)) (seq_l fun R h => ?_) (fun c hcm p acc hp N hN => ?_) ?_
    · unfold eHist
      (walk_at "dl")
      exact h
    · (walk_at "dl")
      refine ⟨sk, c, rfl, rfl, hc c hcm, fun b hb => ?_⟩
      have e : b = isComB sk c := by rw [Bool.eq_iff_iff, hb, isComB_iff]
      subst e
      exact hN _ rfl
    · (walk_at "dl")
      refine ⟨_, bls_map (fun c => isComB sk c) _, ?_⟩
      have e0 : ((hs.map fun c => isComB sk c).all id = true) ↔ ∀ c ∈ hs, isCom sk c := by
        simp [List.all_map, Function.comp_def, isComB_iff]
      cases h1 : (hs.map fun c => isComB sk c).all id with
      | false =>
        (walk_at "dl")
        refine hq _ ?_
        rw [h1] at e0
        simp only [Bool.false_eq_true, false_iff] at e0 ⊢
        exact fun h => e0 h.1
      | true =>
        rw [h1] at e0
        have e1 := e0.mp rfl
        unfold eHist
        (walk_at "dl")
        refine ⟨ns, rfl, ?_⟩
        (walk_at "dl")
        simp only [List.length_map]
        by_cases h2 : headOf ns = hs.length
        · have h3 : ((hs.length : Int) == headOf ns) = true := by simp [h2]
          simp only [h3]
          (walk_at "dl")
          refine ⟨ns, rfl, hn, fun b hb => ?_⟩
          cases b with
          | true =>
            (walk_at "dl")
            refine hq _ ?_
            have := hb.mp rfl
            simp only [Bool.false_eq_true, false_iff]
            rintro ⟨_, _, h, _⟩
            rw [this] at h
            cases h
          | false =>
            have h4 : clash ns = false := by
              cases h : clash ns with
              | false => rfl
              | true => exact absurd (hb.mpr h) (by decide)
            (walk_at "dl")
            refine lc_mapT ns ePc (fun c => .bl (isTrueS sk hs c)) (seq_l fun R h => ?_) (fun c hcm p acc hp N hN => ?_) ?_
            · unfold eNews
              (walk_at "dl")
              exact h
            · (walk_at "dl")
              refine ⟨sk, hs, c, rfl, rfl, ⟨hl, fun c hcm => by have := hc c hcm; omega⟩, rfl, ho h2 c hcm, ?_⟩
              exact hN _ rfl
            · (walk_at "dl")
              refine ⟨_, bls_map (fun c => isTrueS sk hs c) _, hq _ ?_⟩
              simp only [List.all_map, Function.comp_def, id, List.all_eq_true]
              exact ⟨fun h => ⟨e1, h2, h4, h⟩, fun h => h.2.2.2⟩
        · have h3 : ((hs.length : Int) == headOf ns) = false := by simp [Ne.symm h2]
          simp only [h3]
          (walk_at "dl")
          refine hq _ ?_
          simp only [Bool.false_eq_true, false_iff]
          exact fun h => h2 h.2.1
  · exact h.elim
)

end
end K43
end

-- part P6
section
local macro_rules | `(tactic| walk_at "dl") => `(tactic| simp only [DL.sRet, DL.sSeq, DL.sSet, DL.sIf, DL.sNext, DL.sNever, DL.sDrop, DL.sAsg, DL.sRetN, DL.dVar, DL.dC, DL.dOp, DL.dTest, DL.dAnd, DL.dOr, DL.dNot, DL.dTru, DL.dAndV, DL.dOrV, DL.dNotV, DL.dIf, DL.aNil, DL.aCons, DL.dTup, DL.dLst, DL.dLstM, DL.dCall, DL.dFrz, DL.dB, DL.dNeg, DL.dSl, DL.oNone, DL.oSome, DL.dChn, DL.gN, DL.gT, DL.setAll,
  DL.ix_l, DL.ix_t, DL.ix_s, DL.ix_p, DL.add_i, DL.add_s, DL.add_l, DL.add_t, DL.mul_i, DL.mul_b, DL.sub_i, DL.fdiv_i, DL.mod_i, DL.pow_i, DL.shl_i, DL.shr_i, DL.and_i, DL.lt_i, DL.le_i, DL.gt_i, DL.ge_i, DL.le_s, DL.in_t, DL.in_l, DL.in_s, DL.len_l, DL.len_t, DL.len_s, DL.len_p, DL.list_l, DL.list_t, DL.list_s, DL.list_p, DL.tuple_l, DL.tuple_t, DL.int_i, DL.int_b, DL.abs_i, DL.max_i, DL.min_i, DL.all_l, DL.any_l, DL.isi_1, DL.isi_n, DL.sl_l, DL.sl_t, DL.sl_s, DL.neg_i, DL.isN_i, DL.notN_i, DL.eq_x, DL.ne_x,
  DL.w_wrote_many, DL.w_wrote_many_b, DL.w_wrote_among, DL.w_wrote_among_b, DL.w_wrote_did, DL.w_wrote_did_b, DL.w_wrote_times, DL.w_wrote_times_b, DL.w_wrote_value, DL.w_wrote_value_b, DL.w_wrote_head, DL.w_wrote_head_b, DL.w_many_wrote, DL.w_many_wrote_b, DL.w_many_among, DL.w_many_among_b, DL.w_many_did, DL.w_many_did_b, DL.w_many_times, DL.w_many_times_b, DL.w_many_value, DL.w_many_value_b, DL.w_many_head, DL.w_many_head_b, DL.w_among_wrote, DL.w_among_wrote_b, DL.w_among_many, DL.w_among_many_b, DL.w_among_did, DL.w_among_did_b, DL.w_among_times, DL.w_among_times_b, DL.w_among_value, DL.w_among_value_b, DL.w_among_head, DL.w_among_head_b, DL.w_did_wrote, DL.w_did_wrote_b, DL.w_did_many, DL.w_did_many_b, DL.w_did_among, DL.w_did_among_b, DL.w_did_times, DL.w_did_times_b, DL.w_did_value, DL.w_did_value_b, DL.w_did_head, DL.w_did_head_b, DL.w_times_wrote, DL.w_times_wrote_b, DL.w_times_many, DL.w_times_many_b, DL.w_times_among, DL.w_times_among_b, DL.w_times_did, DL.w_times_did_b, DL.w_times_value, DL.w_times_value_b, DL.w_times_head, DL.w_times_head_b, DL.w_value_wrote, DL.w_value_wrote_b, DL.w_value_many, DL.w_value_many_b, DL.w_value_among, DL.w_value_among_b, DL.w_value_did, DL.w_value_did_b, DL.w_value_times, DL.w_value_times_b, DL.w_value_head, DL.w_value_head_b, DL.w_head_wrote, DL.w_head_wrote_b, DL.w_head_many, DL.w_head_many_b, DL.w_head_among, DL.w_head_among_b, DL.w_head_did, DL.w_head_did_b, DL.w_head_times, DL.w_head_times_b, DL.w_head_value, DL.w_head_value_b,
  DL.q_ss, DL.q_ii, DL.q_bb, DL.q_nn, DL.q_tt, DL.q_ll, DL.q_si, DL.q_sn, DL.q_st, DL.q_sl, DL.q_is, DL.q_in, DL.q_it, DL.q_il, DL.q_ns, DL.q_ni, DL.q_nt, DL.q_nl, DL.q_ts, DL.q_ti, DL.q_tn, DL.q_tl, DL.q_ls, DL.q_li, DL.q_ln, DL.q_lt, DL.qs_nil, DL.qs_cons, DL.qs_nc, DL.qs_cn, DL.p_t16, DL.p_l16, DL.p_t15, DL.p_l15, DL.p_t14, DL.p_l14, DL.p_t13, DL.p_l13, DL.p_t12, DL.p_l12, DL.p_s, DL.p_i, DL.p_b, DL.p_n, DL.ps_nil, DL.ps_cons, DL.t_b, DL.t_i, DL.t_l, DL.t_t, DL.t_n, DL.n_n, DL.n_i, DL.n_s, DL.n_t, DL.n_l, DL.n_b, DL.f_s, DL.f_i,
  Bool.false_and, Bool.and_false, DL.z0, DL.z1, DL.z2, DL.z3, DL.z4, DL.z5, DL.z6, DL.z12,
  DL.startD, DL.sFrz, DL.sApp, DL.yesD, DL.lcTurn, DL.wipeE, DL.at0, DL.at1, DL.at2, DL.at3, DL.at4, List.map_cons, List.map_nil, List.replicate_succ, List.replicate_zero, List.length_cons, List.length_nil, List.cons_append, List.nil_append, List.set_cons_zero, List.set_cons_succ, List.getElem?_cons_zero, List.getElem?_cons_succ, Option.some.injEq, exists_eq_left, exists_eq_left', exists_eq', exists_eq, true_and, and_true, decide_eq_true_eq, if_true, if_false, Bool.false_eq_true, reduceIte, Nat.reduceAdd, Nat.reduceSub, DL.D.bl.injEq, DL.D.int.injEq, DL.D.str.injEq, DL.D.tup.injEq, DL.D.lst.injEq, DL.D.ptr.injEq, Bool.not_true, Bool.not_false, beq_self_eq_true, List.all_cons, List.all_nil, List.any_cons, List.any_nil, Bool.and_true, Bool.true_and, Bool.or_false, Bool.false_or, Bool.or_true, Bool.true_or, Bool.false_xor, Bool.true_xor, beq_iff_eq, Bool.not_eq_true, Int.reduceEq, Int.reduceBEq, and_self])

namespace K43
open PySem L2 DL
theorem written_app (a b : List Com) (k : Str) : written (a ++ b) k = written a k ++ written b k := by unfold written; rw [List.flatMap_append]
theorem written_len {hs : List Com} (hb : bdH hs) (k : Str) : (written hs k).length ≤ 10000 := by
  have go : ∀ l : List Com, (∀ c ∈ l, c.length ≤ 100) → (written l k).length ≤ 100 * l.length := by
    intro l
    induction l with
    | nil => intro _; simp [written]
    | cons c l ih =>
      intro h
      have h1 := h c (by simp)
      have h2 := ih fun d hd => h d (by simp [hd])
      have h3 := List.length_filter_le (fun p : Str × Int => decide (p.1 = k)) c
      unfold written at h2 ⊢
      simp only [List.flatMap_cons, List.length_append, List.length_cons, List.length_map]
      omega
  have := go hs hb.2
  have := hb.1
  omega
theorem cut3_2 {a b : D} : cutD [a, b] none (some 3) = [a, b] := (cut_take _ (by decide)).trans rfl
theorem cut3_3 {a b c : D} : cutD [a, b, c] none (some 3) = [a, b, c] := (cut_take _ (by decide)).trans rfl
theorem cut3_4 {a b c d : D} : cutD [a, b, c, d] none (some 3) = [a, b, c] := (cut_take _ (by decide)).trans rfl
theorem plain15 {ks : List Str} : DL.plain 15 (eKeys ks) = true := by unfold eKeys; rw [DL.plain]; exact plains_keys _ ks
theorem bd_pre {a b : List Com} (hb : bdH (a ++ b)) : bdH a := ⟨by have := hb.1; simp at this; omega, fun c hc => hb.2 c (by simp [hc])⟩
section
variable {P : Program} {w : World} {K : PySem.W.Frag} {mg : Str → Option Value} {base : Heap}
theorem ok__law_same (T : Tx K mg) : FnOk P w K mg base CX0 1 T.a__law_same T.d__law_same ["actual", "due"] (spD K C__law_same) :=
  DL.Fun.okD (N := ["actual", "due", "k"]) T.F__law_same sc__law_same (fun cdv A outer s H E hr => 
      (dss_cons (ds_if (dt_tru (de_B call_isiD cd_isi (by rfl) T.b_isinstance (by decide +kernel) (da_cons (dv 1) (da_cons (de_tup (da_cons (de_ty (n := "list") (by rfl) T.b_list (by decide +kernel)) (da_cons (de_ty (n := "tuple") (by rfl) T.b_tuple (by decide +kernel)) da_nil))) da_nil)))) dss_never dss_nil) 
      (dss_cons (ds_if (dt_cmp op_isN od_isN (dv 1) de_non (nomark _)) 
      (dss_one (ds_ret (de_cmp op_isN od_isN (dv 0) de_non (nomark _)))) dss_nil) 
      (dss_cons (ds_if (dt_cmp (op_neD hr.units) od_ne (de_B call_isiD cd_isi (by rfl) T.b_isinstance (by decide +kernel) (da_cons (dv 1) (da_cons (de_ty (n := "bool") (by rfl) T.b_bool (by decide +kernel)) da_nil))) (de_B call_isiD cd_isi (by rfl) T.b_isinstance (by decide +kernel) (da_cons (dv 0) (da_cons (de_ty (n := "bool") (by rfl) T.b_bool (by decide +kernel)) da_nil))) (nomark _)) 
      (dss_one (ds_ret de_bl)) dss_nil) 
      (dss_cons (ds_if (dt_tru (de_B call_isiD cd_isi (by rfl) T.b_isinstance (by decide +kernel) (da_cons (dv 1) (da_cons (de_ty (n := "str") (by rfl) T.b_str (by decide +kernel)) da_nil)))) 
      (dss_one (ds_ret (de_and (de_B call_isiD cd_isi (by rfl) T.b_isinstance (by decide +kernel) (da_cons (dv 0) (da_cons (de_ty (n := "str") (by rfl) T.b_str (by decide +kernel)) da_nil))) (de_one (de_cmp (op_eqD hr.units) od_eq (dv 0) (dv 1) (nomark _)))))) dss_nil) 
      (dss_one (ds_ret (de_and (de_B call_isiD cd_isi (by rfl) T.b_isinstance (by decide +kernel) (da_cons (dv 0) (da_cons (de_ty (n := "int") (by rfl) T.b_int (by decide +kernel)) da_nil))) (de_one (de_cmp (op_eqD hr.units) od_eq (dv 0) (dv 1) (nomark _)))))))))))
    (by intro ds μ Q h; unfold C__law_same at h; split at h <;> first | rfl | exact h.elim) (by
  intro ds μ Q h
  unfold C__law_same at h
  split at h
  · obtain ⟨rfl, hq⟩ := h
    (walk_at "dl")
    refine ⟨"int", ["list", "tuple"], rfl, rfl, by decide, ?_⟩
    rw [if_neg (by decide)]
    refine ⟨"int", rfl, by decide, "int", rfl, by decide, ?_⟩
    rw [if_neg (by decide)]
    refine ⟨"int", rfl, by decide, ?_⟩
    rw [if_neg (by decide)]
    refine ⟨"int", rfl, by decide, ?_⟩
    rw [if_pos (by decide)]
    exact hq
  · obtain ⟨rfl, hq⟩ := h
    (walk_at "dl")
    refine ⟨"bool", ["list", "tuple"], rfl, rfl, by decide, ?_⟩
    rw [if_neg (by decide)]
    refine ⟨"bool", rfl, by decide, "bool", rfl, by decide, ?_⟩
    rw [if_neg (by decide)]
    refine ⟨"bool", rfl, by decide, ?_⟩
    rw [if_neg (by decide)]
    refine ⟨"bool", rfl, by decide, ?_⟩
    rw [if_pos (by decide)]
    exact hq
  · exact h.elim
)

theorem ok__law_head (T : Tx K mg) : FnOk P w K mg base CX0 1 T.a__law_head T.d__law_head ["news"] (spD K C__law_head) :=
  DL.Fun.okD (N := ["news", "found", "piece"]) T.F__law_head sc__law_head (fun cdv A outer s H E hr => 
      (dss_cons (ds_set 1 sc__law_head.nd de_int) 
      (dss_cons (ds_for PassesOwn.never rfl (di_seq (dv 0)) (dg_name 2 sc__law_head.nd) 
      (dss_one (ds_if (dt_cmp (op_neD hr.units) od_ne (de_ix ix_seq od_ix (dv 2) de_int (fun _ _ => rfl)) (de_str) (nomark _)) 
      (dss_one (ds_set 1 sc__law_head.nd (de_B (call_max2 rfl) cd_max2 (by rfl) T.b_max (by decide +kernel) (da_cons (dv 1) (da_cons (de_if (dt_cmp (op_eqD hr.units) od_eq (de_ix ix_seq od_ix (dv 2) de_int (fun _ _ => rfl)) (de_str) (nomark _)) (de_ix ix_seq od_ix (dv 2) de_int (fun _ _ => rfl)) (de_ix ix_seq od_ix (dv 2) de_int (fun _ _ => rfl))) da_nil))))) dss_nil))) 
      (dss_one (ds_ret (dv 1))))))
    (by intro ds μ Q h; unfold C__law_head at h; split at h <;> first | rfl | exact h.elim) (by
  intro ds μ Q h
  unfold C__law_head at h
  split at h
  · obtain ⟨ns, rfl, hq⟩ := h
    (walk_at "dl")
    refine for_map ePc ns (fun pre ρ' μ' => (∃ a, ρ' = [some (eNews ns), some (.int (pre.foldl stepHead 0)), a]) ∧ μ' = μ) (seq_l fun R h => ?_) ⟨⟨_, rfl⟩, rfl⟩ (fun pre q post ρ' μ' e hI => ?_) fun ρ' μ' hI => ?_
    · (walk_at "dl")
      exact h
    · obtain ⟨⟨a, rfl⟩, rfl⟩ := hI
      simp only [List.foldl_append, List.foldl_cons, List.foldl_nil]
      cases q <;> unfold ePc <;> (walk_at "dl") <;> exact ⟨_, rfl⟩
    · obtain ⟨⟨a, rfl⟩, rfl⟩ := hI
      (walk_at "dl")
      exact hq
  · exact h.elim
)

theorem ok__law_written (T : Tx K mg) : FnOk P w K mg base CX0 1 T.a__law_written T.d__law_written ["history", "key"] (spD K C__law_written) :=
  DL.Fun.okD (N := ["history", "key", "found", "commit", "pair"]) T.F__law_written sc__law_written (fun cdv A outer s H E hr => 
      (dss_cons (ds_set 2 sc__law_written.nd (de_lst da_nil)) 
      (dss_cons (ds_for PassesOwn.never rfl (di_seq (dv 0)) (dg_name 3 sc__law_written.nd) 
      (dss_one (ds_set 2 sc__law_written.nd (de_op op_addD od_add (dv 2) (de_lc [("pair", 4)] rfl sc__law_written.nd (di_seq (dv 3)) (blkOk_by (sc := (defScope s__law_written)) (own := [("pair", 4)]) (N := ["history", "key", "found", "commit", "pair"]) (by decide +kernel)) (fun _ _ _ _ _ => (dg_name 4 sc__law_written.nd)) (fun _ _ _ _ _ => dts_one (dt_cmp (op_eqD hr.units) od_eq (de_ix ix_seq od_ix (dv 4) de_int (fun _ _ => rfl)) (dv 1) (nomark _))) (fun _ _ _ _ _ => (de_ix ix_seq od_ix (dv 4) de_int (fun _ _ => rfl)))))))) 
      (dss_one (ds_ret (dv 2))))))
    (by intro ds μ Q h; unfold C__law_written at h; split at h <;> first | rfl | exact h.elim) (by
  intro ds μ Q h
  unfold C__law_written at h
  split at h
  · rename_i ds' h' k
    obtain ⟨hs, rfl, hb, hq⟩ := h
    (walk_at "dl")
    refine for_map eCom hs (fun pre ρ' μ' => (∃ a b, ρ' = [some (eHist hs), some (.str k), some (.lst ((written pre k).map .int)), a, b]) ∧ μ' = μ) (seq_l fun R h => ?_) ⟨⟨_, _, rfl⟩, rfl⟩ (fun pre c post ρ' μ' e hI => ?_) fun ρ' μ' hI => ?_
    · (walk_at "dl")
      exact h
    · obtain ⟨⟨a, b, rfl⟩, rfl⟩ := hI
      unfold eCom
      (walk_at "dl")
      refine lc_fmapT c ePair (fun p => if p.1 = k then some (D.int p.2) else none) (seq_t fun R h => ?_) (fun d hd p acc hp N hN => ?_) ?_
      · (walk_at "dl")
        exact h
      · unfold ePair
        (walk_at "dl")
        by_cases e : d.1 = k
        · rw [if_pos e]
          exact hN _ (by simp [e])
        · rw [if_neg e]
          exact hN _ (by simp [e])
      · have ee : (c.filterMap fun p => if p.1 = k then some (D.int p.2) else none) = (written [c] k).map D.int := by
          unfold written
          simp only [List.flatMap_cons, List.flatMap_nil, List.append_nil, List.map_map]
          clear e
          induction c with
          | nil => rfl
          | cons p c ih =>
            by_cases h : p.1 = k
            · simp [h, ih]
            · simp [h, ih]
        rw [ee]
        have hb2 : bdH (pre ++ [c]) := by rw [e] at hb; exact bd_pre (b := post) (by simpa using hb)
        have hl := written_len hb2 k
        rw [written_app] at hl ⊢
        simp only [List.length_append] at hl
        (walk_at "dl")
        rw [List.map_append]
        exact ⟨by simp only [List.length_map]; exact sz_small hl, ⟨_, _, rfl⟩⟩
    · obtain ⟨⟨a, b, rfl⟩, rfl⟩ := hI
      (walk_at "dl")
      exact hq
  · exact h.elim
)

theorem ok__law_values_clash (T : Tx K mg) : FnOk P w K mg base CX0 1 T.a__law_values_clash T.d__law_values_clash ["news"] (spD K C__law_values_clash) :=
  DL.Fun.okD (N := ["news", "piece", "other"]) T.F__law_values_clash sc__law_values_clash (fun cdv A outer s H E hr => 
      (dss_cons (ds_for PassesOwn.never rfl (di_seq (dv 0)) (dg_name 1 sc__law_values_clash.nd) 
      (dss_one (ds_for PassesOwn.never rfl (di_seq (dv 0)) (dg_name 2 sc__law_values_clash.nd) 
      (dss_one (ds_if (dw_pt (dw_and (dt_cmp (op_eqD hr.units) od_eq (de_ix ix_seq od_ix (dv 1) de_int (fun _ _ => rfl)) (de_str) (nomark _)) (dw_and (dt_cmp (op_eqD hr.units) od_eq (de_sl (dv 2) do_none (do_some de_int)) (de_sl (dv 1) do_none (do_some de_int)) (nomark _)) (dw_and1 (dt_cmp (op_neD hr.units) od_ne (dv 2) (dv 1) (nomark _)))))) 
      (dss_one (ds_ret de_bl)) dss_nil))))) 
      (dss_one (ds_ret de_bl))))
    (by intro ds μ Q h; unfold C__law_values_clash at h; split at h <;> first | rfl | exact h.elim) (by
  intro ds μ Q h
  unfold C__law_values_clash at h
  split at h
  · obtain ⟨ns, rfl, hq⟩ := h
    (walk_at "dl")
    refine for_map ePc ns (fun pre ρ' μ' => (∃ a b, ρ' = [some (eNews ns), a, b]) ∧ μ' = μ ∧ ∀ p ∈ pre, ns.any (clash1 p) = false) (seq_l fun R h => ?_) ⟨⟨_, _, rfl⟩, rfl, by simp⟩ (fun pre p post ρ' μ' e hI => ?_) fun ρ' μ' hI => ?_
    · (walk_at "dl")
      exact h
    · obtain ⟨⟨a, b, rfl⟩, rfl, hc⟩ := hI
      (walk_at "dl")
      refine for_map ePc ns (fun pre2 ρ' μ2 => (∃ b, ρ' = [some (eNews ns), some (ePc p), b]) ∧ μ2 = μ' ∧ pre2.any (clash1 p) = false) (seq_l fun R h => ?_) ⟨⟨_, rfl⟩, rfl, rfl⟩ (fun pre2 o post2 ρ' μ' e2 hI => ?_) fun ρ' μ' hI => ?_
      · (walk_at "dl")
        exact h
      · obtain ⟨⟨b, rfl⟩, rfl, hc2⟩ := hI
        have nocl : ∀ ρ'', ρ'' = [some (eNews ns), some (ePc p), some (ePc o)] → clash1 p o = false → (∃ b, ρ'' = [some (eNews ns), some (ePc p), b]) ∧ (pre2 ++ [o]).any (clash1 p) = false := by
          intro ρ'' e h
          exact ⟨⟨_, e⟩, by rw [List.any_append, hc2]; simp [h]⟩
        cases p
        case value k n x =>
          cases o
          case value k' n' x' =>
            unfold ePc
            (walk_at "dl")
            simp only [cut3_4]
            (walk_at "dl")
            by_cases h1 : k' = k
            · subst h1
              by_cases h2 : n' = n
              · subst h2
                by_cases h3 : x' = x
                · subst h3
                  (walk_at "dl")
                  exact nocl _ rfl (by simp [clash1])
                · have : (x' == x) = false := by simp [h3]
                  simp only [this]
                  (walk_at "dl")
                  have : clash ns = true := (clash_iff ns).mpr ⟨k', n', x, x', by rw [e]; simp, by rw [e2]; simp, h3⟩
                  rw [this] at hq
                  exact hq
              · have : (n' == n) = false := by simp [h2]
                simp only [this]
                (walk_at "dl")
                exact nocl _ rfl (by simp [clash1, h2])
            · have : (k' == k) = false := by simp [h1]
              simp only [this]
              (walk_at "dl")
              exact nocl _ rfl (by simp [clash1, h1])
          all_goals
            unfold ePc
            (walk_at "dl")
            simp only [cut3_2, cut3_3, cut3_4, plain15]
            (walk_at "dl")
            first
              | exact nocl _ rfl rfl
              | exact ⟨plain15, nocl _ rfl rfl⟩
        all_goals
          unfold ePc at nocl ⊢
          (walk_at "dl")
          exact nocl _ rfl (by cases o <;> rfl)
      · obtain ⟨⟨b, rfl⟩, rfl, hc2⟩ := hI
        refine ⟨⟨_, _, rfl⟩, rfl, fun q hq => ?_⟩
        rcases List.mem_append.mp hq with h | h
        · exact hc q h
        · simp at h; subst h; exact hc2
    · obtain ⟨⟨a, b, rfl⟩, rfl, hc⟩ := hI
      (walk_at "dl")
      have : clash ns = false := by
        unfold clash
        rw [List.any_eq_false]
        intro p hp
        rw [hc p hp]; simp
      rw [this] at hq
      exact hq
  · exact h.elim
)

end
end K43
end

-- part P7
section
local macro_rules | `(tactic| walk_at "dl") => `(tactic| simp only [DL.sRet, DL.sSeq, DL.sSet, DL.sIf, DL.sNext, DL.sNever, DL.sDrop, DL.sAsg, DL.sRetN, DL.dVar, DL.dC, DL.dOp, DL.dTest, DL.dAnd, DL.dOr, DL.dNot, DL.dTru, DL.dAndV, DL.dOrV, DL.dNotV, DL.dIf, DL.aNil, DL.aCons, DL.dTup, DL.dLst, DL.dLstM, DL.dCall, DL.dFrz, DL.dB, DL.dNeg, DL.dSl, DL.oNone, DL.oSome, DL.dChn, DL.gN, DL.gT, DL.setAll,
  DL.ix_l, DL.ix_t, DL.ix_s, DL.ix_p, DL.add_i, DL.add_s, DL.add_l, DL.add_t, DL.mul_i, DL.mul_b, DL.sub_i, DL.fdiv_i, DL.mod_i, DL.pow_i, DL.shl_i, DL.shr_i, DL.and_i, DL.lt_i, DL.le_i, DL.gt_i, DL.ge_i, DL.le_s, DL.in_t, DL.in_l, DL.in_s, DL.len_l, DL.len_t, DL.len_s, DL.len_p, DL.list_l, DL.list_t, DL.list_s, DL.list_p, DL.tuple_l, DL.tuple_t, DL.int_i, DL.int_b, DL.abs_i, DL.max_i, DL.min_i, DL.all_l, DL.any_l, DL.isi_1, DL.isi_n, DL.sl_l, DL.sl_t, DL.sl_s, DL.neg_i, DL.isN_i, DL.notN_i, DL.eq_x, DL.ne_x,
  DL.w_wrote_many, DL.w_wrote_many_b, DL.w_wrote_among, DL.w_wrote_among_b, DL.w_wrote_did, DL.w_wrote_did_b, DL.w_wrote_times, DL.w_wrote_times_b, DL.w_wrote_value, DL.w_wrote_value_b, DL.w_wrote_head, DL.w_wrote_head_b, DL.w_many_wrote, DL.w_many_wrote_b, DL.w_many_among, DL.w_many_among_b, DL.w_many_did, DL.w_many_did_b, DL.w_many_times, DL.w_many_times_b, DL.w_many_value, DL.w_many_value_b, DL.w_many_head, DL.w_many_head_b, DL.w_among_wrote, DL.w_among_wrote_b, DL.w_among_many, DL.w_among_many_b, DL.w_among_did, DL.w_among_did_b, DL.w_among_times, DL.w_among_times_b, DL.w_among_value, DL.w_among_value_b, DL.w_among_head, DL.w_among_head_b, DL.w_did_wrote, DL.w_did_wrote_b, DL.w_did_many, DL.w_did_many_b, DL.w_did_among, DL.w_did_among_b, DL.w_did_times, DL.w_did_times_b, DL.w_did_value, DL.w_did_value_b, DL.w_did_head, DL.w_did_head_b, DL.w_times_wrote, DL.w_times_wrote_b, DL.w_times_many, DL.w_times_many_b, DL.w_times_among, DL.w_times_among_b, DL.w_times_did, DL.w_times_did_b, DL.w_times_value, DL.w_times_value_b, DL.w_times_head, DL.w_times_head_b, DL.w_value_wrote, DL.w_value_wrote_b, DL.w_value_many, DL.w_value_many_b, DL.w_value_among, DL.w_value_among_b, DL.w_value_did, DL.w_value_did_b, DL.w_value_times, DL.w_value_times_b, DL.w_value_head, DL.w_value_head_b, DL.w_head_wrote, DL.w_head_wrote_b, DL.w_head_many, DL.w_head_many_b, DL.w_head_among, DL.w_head_among_b, DL.w_head_did, DL.w_head_did_b, DL.w_head_times, DL.w_head_times_b, DL.w_head_value, DL.w_head_value_b,
  DL.q_ss, DL.q_ii, DL.q_bb, DL.q_nn, DL.q_tt, DL.q_ll, DL.q_si, DL.q_sn, DL.q_st, DL.q_sl, DL.q_is, DL.q_in, DL.q_it, DL.q_il, DL.q_ns, DL.q_ni, DL.q_nt, DL.q_nl, DL.q_ts, DL.q_ti, DL.q_tn, DL.q_tl, DL.q_ls, DL.q_li, DL.q_ln, DL.q_lt, DL.qs_nil, DL.qs_cons, DL.qs_nc, DL.qs_cn, DL.p_t16, DL.p_l16, DL.p_t15, DL.p_l15, DL.p_t14, DL.p_l14, DL.p_t13, DL.p_l13, DL.p_t12, DL.p_l12, DL.p_s, DL.p_i, DL.p_b, DL.p_n, DL.ps_nil, DL.ps_cons, DL.t_b, DL.t_i, DL.t_l, DL.t_t, DL.t_n, DL.n_n, DL.n_i, DL.n_s, DL.n_t, DL.n_l, DL.n_b, DL.f_s, DL.f_i,
  Bool.false_and, Bool.and_false, DL.z0, DL.z1, DL.z2, DL.z3, DL.z4, DL.z5, DL.z6, DL.z12,
  DL.startD, DL.sFrz, DL.sApp, DL.yesD, DL.lcTurn, DL.wipeE, DL.at0, DL.at1, DL.at2, DL.at3, DL.at4, List.map_cons, List.map_nil, List.replicate_succ, List.replicate_zero, List.length_cons, List.length_nil, List.cons_append, List.nil_append, List.set_cons_zero, List.set_cons_succ, List.getElem?_cons_zero, List.getElem?_cons_succ, Option.some.injEq, exists_eq_left, exists_eq_left', exists_eq', exists_eq, true_and, and_true, decide_eq_true_eq, if_true, if_false, Bool.false_eq_true, reduceIte, Nat.reduceAdd, Nat.reduceSub, DL.D.bl.injEq, DL.D.int.injEq, DL.D.str.injEq, DL.D.tup.injEq, DL.D.lst.injEq, DL.D.ptr.injEq, Bool.not_true, Bool.not_false, beq_self_eq_true, List.all_cons, List.all_nil, List.any_cons, List.any_nil, Bool.and_true, Bool.true_and, Bool.or_false, Bool.false_or, Bool.or_true, Bool.true_or, Bool.false_xor, Bool.true_xor, beq_iff_eq, Bool.not_eq_true, Int.reduceEq, Int.reduceBEq, and_self])

namespace K43
open PySem L2 DL
theorem atG {α : Type} (d : α) {l : List α} {i : Int} (h0 : 0 ≤ i) (h1 : i < l.length) : atI l i = some (l.getD i.toNat d) := by
  obtain ⟨x, h2, h3⟩ := atI_in h0 h1
  rw [h2, List.getD_eq_getElem?_getD, h3]
  rfl
def fK (tb : List (List Str)) (k : Str) (i : Nat) : Option D := if k ∈ tb.getD i [] then some (D.int (0 + (i : Nat))) else none
theorem count_eq (tb : List (List Str)) (k : Str) (v : Nat) (h : v ≤ tb.length) : ((List.range v).filterMap (fK tb k)).length = countK tb k v := by
  induction v with
  | zero => rfl
  | succ v ih =>
    have ih := ih (by omega)
    have e : tb.take (v + 1) = tb.take v ++ [tb.getD v []] := by
      rw [List.take_add_one, List.getD_eq_getElem?_getD, List.getElem?_eq_getElem (by omega)]
      rfl
    unfold countK at ih ⊢
    rw [Int.toNat_natCast] at ih ⊢
    rw [List.range_succ, List.filterMap_append, List.length_append, ih, e, List.filter_append, List.length_append]
    congr 1
    by_cases hk : k ∈ tb.getD v []
    · have h1 : fK tb k v = some (D.int (0 + (v : Nat))) := if_pos hk
      simp only [List.filterMap_cons, h1, List.filterMap_nil, List.filter_cons, hk, decide_true, if_true, List.filter_nil, List.length_cons, List.length_nil]
    · have h1 : fK tb k v = none := if_neg hk
      simp only [List.filterMap_cons, h1, List.filterMap_nil, List.filter_cons, hk, decide_false, Bool.false_eq_true, if_false, List.filter_nil, List.length_nil]
theorem countI (tb : List (List Str)) (k : Str) (v : Int) (h0 : 0 ≤ v) (h : v ≤ tb.length) : ((List.range v.toNat).filterMap (fK tb k)).length = countK tb k v := by
  rw [count_eq tb k v.toNat (by omega)]
  unfold countK
  rw [Int.toNat_natCast]
def mkC (sk : List Str) (m : Nat) : List Str := (List.range sk.length).filterMap fun k => if Builtin.bitAnd ((1 + (m : Int)) / 2 ^ k) 1 ≠ 0 then some (sk.getD k ⟨#[]⟩) else none
def allC (sk : List Str) : List (List Str) := (List.range ((1 * 2 ^ (sk.length : Int).toNat - 1 : Int)).toNat).map (mkC sk)
theorem allC_ok : ∀ sk ∈ shelves, allC sk ≠ [] ∧ (allC sk).length ≤ 7 ∧ ∀ c ∈ allC sk, c ≠ [] ∧ c.Sublist sk := by decide +kernel
theorem shelf3 : ∀ sk ∈ shelves, sk.length ≤ 3 := by decide +kernel
section
variable {P : Program} {w : World} {K : PySem.W.Frag} {mg : Str → Option Value} {base : Heap}
theorem ok__law_holds (T : Tx K mg) : FnOk P w K mg base CX0 1 T.a__law_holds T.d__law_holds ["shelf", "table", "piece"] (spD K C__law_holds) :=
  DL.Fun.okD (N := ["shelf", "table", "piece", "written", "k", "commit", "key"]) T.F__law_holds sc__law_holds (fun cdv A outer s H E hr => 
      (dss_cons (ds_if (dt_cmp op_inD2 od_in (de_ix ix_seq od_ix (dv 2) de_int (fun _ _ => rfl)) (de_tup (da_cons (de_str) (da_cons (de_str) da_nil))) (by rfl)) 
      (dss_one (ds_ret de_bl)) dss_nil) 
      (dss_cons (ds_if (dt_cmp (op_eqD hr.units) od_eq (de_ix ix_seq od_ix (dv 2) de_int (fun _ _ => rfl)) (de_str) (nomark _)) 
      (dss_cons (ds_set 3 sc__law_holds.nd (de_B L2.call_len cd_len (by rfl) T.b_len (by decide +kernel) (da_cons (de_lc [("k", 4)] rfl sc__law_holds.nd (di_rg1 (by rfl) T.b_range (da_cons (de_ix ix_seq od_ix (dv 2) de_int (fun _ _ => rfl)) da_nil)) (blkOk_by (sc := (defScope s__law_holds)) (own := [("k", 4)]) (N := ["shelf", "table", "piece", "written", "k", "commit", "key"]) (by decide +kernel)) (fun _ _ _ _ _ => (dg_name 4 sc__law_holds.nd)) (fun _ _ _ _ _ => dts_one (dt_cmp op_inD2 od_in (de_ix ix_seq od_ix (dv 2) de_int (fun _ _ => rfl)) (de_ix ix_seq od_ix (dv 1) (dv 4) (fun _ _ => rfl)) (by rfl))) (fun _ _ _ _ _ => (dv 4))) da_nil))) 
      (dss_one (ds_ret (de_and (de_cmp op_inD2 od_in (de_ix ix_seq od_ix (dv 2) de_int (fun _ _ => rfl)) (dv 0) (by rfl)) (de_one (de_cmp (op_eqD hr.units) od_eq (dv 3) (de_ix ix_seq od_ix (dv 2) de_int (fun _ _ => rfl)) (nomark _))))))) dss_nil) 
      (dss_cons (ds_set 5 sc__law_holds.nd (de_ix ix_seq od_ix (dv 1) (de_op op_sub od_sub (de_ix ix_seq od_ix (dv 2) de_int (fun _ _ => rfl)) de_int) (fun _ _ => rfl))) 
      (dss_cons (ds_if (dt_cmp (op_eqD hr.units) od_eq (de_ix ix_seq od_ix (dv 2) de_int (fun _ _ => rfl)) (de_str) (nomark _)) 
      (dss_one (ds_ret (de_cmp (op_eqD hr.units) od_eq (dv 5) (de_ix ix_seq od_ix (dv 2) de_int (fun _ _ => rfl)) (nomark _)))) dss_nil) 
      (dss_cons (ds_if (dt_cmp (op_eqD hr.units) od_eq (de_ix ix_seq od_ix (dv 2) de_int (fun _ _ => rfl)) (de_str) (nomark _)) 
      (dss_one (ds_ret (de_cmp (op_eqD hr.units) od_eq (de_B L2.call_len cd_len (by rfl) T.b_len (by decide +kernel) (da_cons (dv 5) da_nil)) (de_ix ix_seq od_ix (dv 2) de_int (fun _ _ => rfl)) (nomark _)))) dss_nil) 
      (dss_cons (ds_if (dt_cmp (op_eqD hr.units) od_eq (de_ix ix_seq od_ix (dv 2) de_int (fun _ _ => rfl)) (de_str) (nomark _)) 
      (dss_one (ds_ret (de_cmp op_inD2 od_in (de_ix ix_seq od_ix (dv 2) de_int (fun _ _ => rfl)) (dv 5) (by rfl)))) dss_nil) 
      (dss_one (ds_ret (de_and (de_B (cr_all rfl) cd_all (by rfl) T.b_all (by decide +kernel) (da_cons (de_lc [("key", 6)] rfl sc__law_holds.nd (di_seq (de_ix ix_seq od_ix (dv 2) de_int (fun _ _ => rfl))) (blkOk_by (sc := (defScope s__law_holds)) (own := [("key", 6)]) (N := ["shelf", "table", "piece", "written", "k", "commit", "key"]) (by decide +kernel)) (fun _ _ _ _ _ => (dg_name 6 sc__law_holds.nd)) (fun _ _ _ _ _ => dts_nil) (fun _ _ _ _ _ => (de_cmp op_inD2 od_in (dv 6) (dv 0) (by rfl)))) da_nil)) (de_one (de_B (cr_all rfl) cd_all (by rfl) T.b_all (by decide +kernel) (da_cons (de_lc [("key", 6)] rfl sc__law_holds.nd (di_seq (dv 5)) (blkOk_by (sc := (defScope s__law_holds)) (own := [("key", 6)]) (N := ["shelf", "table", "piece", "written", "k", "commit", "key"]) (by decide +kernel)) (fun _ _ _ _ _ => (dg_name 6 sc__law_holds.nd)) (fun _ _ _ _ _ => dts_nil) (fun _ _ _ _ _ => (de_cmp op_inD2 od_in (dv 6) (de_ix ix_seq od_ix (dv 2) de_int (fun _ _ => rfl)) (by rfl)))) da_nil)))))))))))))
    (by intro ds μ Q h; unfold C__law_holds at h; split at h <;> first | rfl | exact h.elim) (by
  intro ds μ Q h
  unfold C__law_holds at h
  split at h
  · obtain ⟨sk, tb, q, rfl, rfl, rfl, ho, hl, hq⟩ := h
    cases q <;> unfold ePc <;> (walk_at "dl")
    · rename_i v ks
      have h1 := ho.1; have h2 := ho.2
      unfold eTab
      (walk_at "dl")
      rw [atI_map, atG [] (by omega) (by omega)]
      refine ⟨_, rfl, plain_keys _, plain_keys _, ?_⟩
      rw [eqv_keys]
      exact hq
    · rename_i v n
      have h1 := ho.1; have h2 := ho.2
      unfold eTab
      (walk_at "dl")
      rw [atI_map, atG [] (by omega) (by omega)]
      refine ⟨_, rfl, ?_⟩
      unfold eKeys
      (walk_at "dl")
      rw [List.length_map, Bool.beq_eq_decide_eq]
      exact hq
    · rename_i v ks
      have h1 := ho.1; have h2 := ho.2
      unfold eTab
      (walk_at "dl")
      rw [atI_map, atG [] (by omega) (by omega)]
      refine ⟨_, rfl, ?_⟩
      refine lc_mapT ks D.str (fun k => .bl (decide (k ∈ sk))) (seq_t fun R h => ?_) (fun k hk p acc hp N hN => ?_) ?_
      · unfold eKeys
        (walk_at "dl")
        exact h
      · unfold eKeys
        (walk_at "dl")
        refine ⟨flat_strs sk, ?_⟩
        rw [any_str]
        exact hN _ rfl
      · (walk_at "dl")
        refine ⟨_, bls_map (fun k => decide (k ∈ sk)) _, ?_⟩
        have ea : (ks.map fun k => decide (k ∈ sk)).all id = ks.all fun k => decide (k ∈ sk) := by simp [List.all_map, Function.comp_def]
        rw [ea]
        simp only [holds] at hq
        cases h1 : ks.all fun k => decide (k ∈ sk) with
        | false =>
          rw [h1, Bool.false_and] at hq
          (walk_at "dl")
          exact hq
        | true =>
          rw [h1, Bool.true_and] at hq
          (walk_at "dl")
          refine lc_mapT (tb.getD (v - 1).toNat []) D.str (fun k => .bl (decide (k ∈ ks))) (seq_t fun R h => ?_) (fun k hk p acc hp N hN => ?_) ?_
          · unfold eKeys
            (walk_at "dl")
            exact h
          · unfold eKeys
            (walk_at "dl")
            refine ⟨flat_strs ks, ?_⟩
            rw [any_str]
            exact hN _ rfl
          · (walk_at "dl")
            refine ⟨_, bls_map (fun k => decide (k ∈ ks)) _, ?_⟩
            have ea : ((tb.getD (v - 1).toNat []).map fun k => decide (k ∈ ks)).all id = (tb.getD (v - 1).toNat []).all fun k => decide (k ∈ ks) := by simp [List.all_map, Function.comp_def]
            rw [ea]
            exact hq
    · rename_i v k
      have h1 := ho.1; have h2 := ho.2
      unfold eTab
      (walk_at "dl")
      rw [atI_map, atG [] (by omega) (by omega)]
      refine ⟨_, rfl, ?_⟩
      unfold eKeys
      (walk_at "dl")
      refine ⟨flat_strs _, ?_⟩
      rw [any_str]
      exact hq
    · rename_i k v n
      have h1 := ho.1; have h2 := ho.2
      refine lc_fmapT (List.range v.toNat) (fun i => D.int (0 + (i : Nat))) (fK tb k) (rg1 ⟨by omega, by omega⟩ fun R h => ?_) (fun i hi p acc hp N hN => ?_) ?_
      · (walk_at "dl")
        exact h
      · have hi' := List.mem_range.mp hi
        unfold eTab
        (walk_at "dl")
        rw [atI_map, atG [] (by omega) (by omega)]
        refine ⟨_, rfl, ?_⟩
        have e0 : (0 + (i : Int)).toNat = i := by omega
        rw [e0]
        unfold eKeys
        (walk_at "dl")
        refine ⟨flat_strs _, ?_⟩
        rw [any_str]
        by_cases hk : k ∈ tb.getD i []
        · simp only [hk, decide_true, if_true]
          exact hN _ (by unfold fK; rw [if_pos hk])
        · simp only [hk, decide_false, Bool.false_eq_true, if_false]
          exact hN _ (by unfold fK; rw [if_neg hk])
      · (walk_at "dl")
        unfold eKeys
        (walk_at "dl")
        refine ⟨flat_strs _, ?_⟩
        rw [any_str]
        simp only [holds] at hq
        by_cases hk : k ∈ sk
        · simp only [hk, decide_true, Bool.true_and, if_true] at hq ⊢
          rw [countI tb k v h1 h2, Bool.beq_eq_decide_eq]
          exact hq
        · simp only [hk, decide_false, Bool.false_and, Bool.false_eq_true, if_false] at hq ⊢
          exact hq
    · exact hq
    · exact hq
  · exact h.elim
)

theorem ok__law_commits (T : Tx K mg) : FnOk P w K mg base CX0 1 T.a__law_commits T.d__law_commits ["shelf"] (spD K C__law_commits) :=
  DL.Fun.okD (N := ["shelf", "found", "mark", "k"]) T.F__law_commits sc__law_commits (fun cdv A outer s H E hr => 
      (dss_cons (ds_set 1 sc__law_commits.nd (de_lstM da_nil)) 
      (dss_cons (ds_for PassesOwn.never rfl (di_rg2 (by rfl) T.b_range (da_cons de_int (da_cons (de_op op_shl od_shl de_int (de_B L2.call_len cd_len (by rfl) T.b_len (by decide +kernel) (da_cons (dv 0) da_nil))) da_nil))) (dg_name 2 sc__law_commits.nd) 
      (dss_one (ds_app (dv 1) (de_T call_tuple_of cd_tuple (by rfl) T.b_tuple (by decide +kernel) (da_cons (de_lc [("k", 3)] rfl sc__law_commits.nd (di_rg1 (by rfl) T.b_range (da_cons (de_B L2.call_len cd_len (by rfl) T.b_len (by decide +kernel) (da_cons (dv 0) da_nil)) da_nil)) (blkOk_by (sc := (defScope s__law_commits)) (own := [("k", 3)]) (N := ["shelf", "found", "mark", "k"]) (by decide +kernel)) (fun _ _ _ _ _ => (dg_name 3 sc__law_commits.nd)) (fun _ _ _ _ _ => dts_one (dt_tru (de_op op_and od_and (de_op op_shr od_shr (dv 2) (dv 3)) de_int))) (fun _ _ _ _ _ => (de_ix ix_seq od_ix (dv 0) (dv 3) (fun _ _ => rfl)))) da_nil))))) 
      (dss_frz 1 (dss_one (ds_ret (dv 1)))))))
    (by intro ds μ Q h; unfold C__law_commits at h; split at h <;> first | rfl | exact h.elim) (by
  intro ds μ Q h
  unfold C__law_commits at h
  split at h
  · obtain ⟨sk, hs, rfl, hq⟩ := h
    have hl := shelf3 sk hs
    (walk_at "dl")
    intro p hp
    refine for_map (fun i : Nat => D.int (1 + (i : Nat))) (List.range ((1 * 2 ^ (sk.length : Int).toNat - 1 : Int)).toNat) (fun pre ρ' μ' => (∃ a b, ρ' = [some (eKeys sk), some (.ptr p), a, b]) ∧ μ' = μ.put p (.lst ((pre.map (mkC sk)).map eKeys))) (rg2 ⟨by omega, by omega⟩ ?_ fun R h => ?_) ⟨⟨_, _, rfl⟩, rfl⟩ (fun pre m post ρ' μ' e hI => ?_) fun ρ' μ' hI => ?_
    · have h4 : sk.length = 0 ∨ sk.length = 1 ∨ sk.length = 2 ∨ sk.length = 3 := by omega
      rcases h4 with h | h | h | h <;> rw [h] <;> exact ⟨by decide, by decide⟩
    · unfold eKeys
      (walk_at "dl")
      simp only [List.length_map]
      exact ⟨⟨by omega, by omega, by decide⟩, h⟩
    · obtain ⟨⟨a, b, rfl⟩, rfl⟩ := hI
      (walk_at "dl")
      refine ⟨p, _, rfl, Mu.put_same, ?_⟩
      have hpre : pre.length ≤ 7 := by
        have h1 := congrArg List.length e
        rw [List.length_range, List.length_append] at h1
        have h4 : sk.length = 0 ∨ sk.length = 1 ∨ sk.length = 2 ∨ sk.length = 3 := by omega
        have h5 : (1 * 2 ^ (sk.length : Int).toNat - 1 : Int).toNat ≤ 7 := by rcases h4 with h | h | h | h <;> rw [h] <;> decide
        omega
      refine lc_fmapT (List.range sk.length) (fun k : Nat => D.int (0 + (k : Nat))) (fun k => if Builtin.bitAnd ((1 + (m : Int)) / 2 ^ k) 1 ≠ 0 then some (D.str (sk.getD k ⟨#[]⟩)) else none) (fun R h => ?_) (fun k hk q acc hq' N hN => ?_) ?_
      · refine rg1 (i := sk.length) ⟨by omega, by omega⟩ (fun R h => ?_) R (by rw [Int.toNat_natCast]; exact h)
        unfold eKeys
        (walk_at "dl")
        rw [List.length_map]
        exact h
      · have hk' := List.mem_range.mp hk
        (walk_at "dl")
        refine ⟨by omega, ?_⟩
        have e0 : (0 + (k : Int)).toNat = k := by omega
        rw [e0]
        by_cases hb : Builtin.bitAnd ((1 + (m : Int)) / 2 ^ k) 1 = 0
        · rw [hb]
          exact hN _ (by simp [hb])
        · have h1 : (Builtin.bitAnd ((1 + (m : Int)) / 2 ^ k) 1 != 0) = true := by simp [hb]
          rw [if_pos h1]
          unfold eKeys
          (walk_at "dl")
          rw [atI_map, atG ⟨#[]⟩ (by omega) (by omega), e0]
          exact ⟨_, rfl, hN _ (by rw [if_pos hb])⟩
      · (walk_at "dl")
        refine ⟨_, Mu.put_same, sz_small' (by simp only [List.length_map]; omega), ⟨_, _, rfl⟩, ?_⟩
        rw [Mu.put_put]
        congr 2
        rw [List.map_append, List.map_append]
        congr 1
        have e5 : ∀ l : List Nat, (l.filterMap fun k => if Builtin.bitAnd ((1 + (m : Int)) / 2 ^ k) 1 ≠ 0 then some (D.str (sk.getD k ⟨#[]⟩)) else none) = (l.filterMap fun k => if Builtin.bitAnd ((1 + (m : Int)) / 2 ^ k) 1 ≠ 0 then some (sk.getD k ⟨#[]⟩) else none).map D.str := by
          intro l
          rw [List.map_filterMap]
          congr 1
          funext k
          split <;> rfl
        rw [e5]
        rfl
    · obtain ⟨⟨a, b, rfl⟩, rfl⟩ := hI
      (walk_at "dl")
      refine ⟨p, _, rfl, Mu.put_same, ?_⟩
      rw [Mu.put_del hp]
      obtain ⟨c1, c2, c3⟩ := allC_ok sk hs
      exact hq (allC sk) c1 c2 c3
  · exact h.elim
)

end
end K43
end

-- part P8
section
local macro_rules | `(tactic| walk_at "dl") => `(tactic| simp only [DL.sRet, DL.sSeq, DL.sSet, DL.sIf, DL.sNext, DL.sNever, DL.sDrop, DL.sAsg, DL.sRetN, DL.dVar, DL.dC, DL.dOp, DL.dTest, DL.dAnd, DL.dOr, DL.dNot, DL.dTru, DL.dAndV, DL.dOrV, DL.dNotV, DL.dIf, DL.aNil, DL.aCons, DL.dTup, DL.dLst, DL.dLstM, DL.dCall, DL.dFrz, DL.dB, DL.dNeg, DL.dSl, DL.oNone, DL.oSome, DL.dChn, DL.gN, DL.gT, DL.setAll,
  DL.ix_l, DL.ix_t, DL.ix_s, DL.ix_p, DL.add_i, DL.add_s, DL.add_l, DL.add_t, DL.mul_i, DL.mul_b, DL.sub_i, DL.fdiv_i, DL.mod_i, DL.pow_i, DL.shl_i, DL.shr_i, DL.and_i, DL.lt_i, DL.le_i, DL.gt_i, DL.ge_i, DL.le_s, DL.in_t, DL.in_l, DL.in_s, DL.len_l, DL.len_t, DL.len_s, DL.len_p, DL.list_l, DL.list_t, DL.list_s, DL.list_p, DL.tuple_l, DL.tuple_t, DL.int_i, DL.int_b, DL.abs_i, DL.max_i, DL.min_i, DL.all_l, DL.any_l, DL.isi_1, DL.isi_n, DL.sl_l, DL.sl_t, DL.sl_s, DL.neg_i, DL.isN_i, DL.notN_i, DL.eq_x, DL.ne_x,
  DL.w_wrote_many, DL.w_wrote_many_b, DL.w_wrote_among, DL.w_wrote_among_b, DL.w_wrote_did, DL.w_wrote_did_b, DL.w_wrote_times, DL.w_wrote_times_b, DL.w_wrote_value, DL.w_wrote_value_b, DL.w_wrote_head, DL.w_wrote_head_b, DL.w_many_wrote, DL.w_many_wrote_b, DL.w_many_among, DL.w_many_among_b, DL.w_many_did, DL.w_many_did_b, DL.w_many_times, DL.w_many_times_b, DL.w_many_value, DL.w_many_value_b, DL.w_many_head, DL.w_many_head_b, DL.w_among_wrote, DL.w_among_wrote_b, DL.w_among_many, DL.w_among_many_b, DL.w_among_did, DL.w_among_did_b, DL.w_among_times, DL.w_among_times_b, DL.w_among_value, DL.w_among_value_b, DL.w_among_head, DL.w_among_head_b, DL.w_did_wrote, DL.w_did_wrote_b, DL.w_did_many, DL.w_did_many_b, DL.w_did_among, DL.w_did_among_b, DL.w_did_times, DL.w_did_times_b, DL.w_did_value, DL.w_did_value_b, DL.w_did_head, DL.w_did_head_b, DL.w_times_wrote, DL.w_times_wrote_b, DL.w_times_many, DL.w_times_many_b, DL.w_times_among, DL.w_times_among_b, DL.w_times_did, DL.w_times_did_b, DL.w_times_value, DL.w_times_value_b, DL.w_times_head, DL.w_times_head_b, DL.w_value_wrote, DL.w_value_wrote_b, DL.w_value_many, DL.w_value_many_b, DL.w_value_among, DL.w_value_among_b, DL.w_value_did, DL.w_value_did_b, DL.w_value_times, DL.w_value_times_b, DL.w_value_head, DL.w_value_head_b, DL.w_head_wrote, DL.w_head_wrote_b, DL.w_head_many, DL.w_head_many_b, DL.w_head_among, DL.w_head_among_b, DL.w_head_did, DL.w_head_did_b, DL.w_head_times, DL.w_head_times_b, DL.w_head_value, DL.w_head_value_b,
  DL.q_ss, DL.q_ii, DL.q_bb, DL.q_nn, DL.q_tt, DL.q_ll, DL.q_si, DL.q_sn, DL.q_st, DL.q_sl, DL.q_is, DL.q_in, DL.q_it, DL.q_il, DL.q_ns, DL.q_ni, DL.q_nt, DL.q_nl, DL.q_ts, DL.q_ti, DL.q_tn, DL.q_tl, DL.q_ls, DL.q_li, DL.q_ln, DL.q_lt, DL.qs_nil, DL.qs_cons, DL.qs_nc, DL.qs_cn, DL.p_t16, DL.p_l16, DL.p_t15, DL.p_l15, DL.p_t14, DL.p_l14, DL.p_t13, DL.p_l13, DL.p_t12, DL.p_l12, DL.p_s, DL.p_i, DL.p_b, DL.p_n, DL.ps_nil, DL.ps_cons, DL.t_b, DL.t_i, DL.t_l, DL.t_t, DL.t_n, DL.n_n, DL.n_i, DL.n_s, DL.n_t, DL.n_l, DL.n_b, DL.f_s, DL.f_i,
  Bool.false_and, Bool.and_false, DL.z0, DL.z1, DL.z2, DL.z3, DL.z4, DL.z5, DL.z6, DL.z12,
  DL.startD, DL.sFrz, DL.sApp, DL.yesD, DL.lcTurn, DL.wipeE, DL.at0, DL.at1, DL.at2, DL.at3, DL.at4, List.map_cons, List.map_nil, List.replicate_succ, List.replicate_zero, List.length_cons, List.length_nil, List.cons_append, List.nil_append, List.set_cons_zero, List.set_cons_succ, List.getElem?_cons_zero, List.getElem?_cons_succ, Option.some.injEq, exists_eq_left, exists_eq_left', exists_eq', exists_eq, true_and, and_true, decide_eq_true_eq, if_true, if_false, Bool.false_eq_true, reduceIte, Nat.reduceAdd, Nat.reduceSub, DL.D.bl.injEq, DL.D.int.injEq, DL.D.str.injEq, DL.D.tup.injEq, DL.D.lst.injEq, DL.D.ptr.injEq, Bool.not_true, Bool.not_false, beq_self_eq_true, List.all_cons, List.all_nil, List.any_cons, List.any_nil, Bool.and_true, Bool.true_and, Bool.or_false, Bool.false_or, Bool.or_true, Bool.true_or, Bool.false_xor, Bool.true_xor, beq_iff_eq, Bool.not_eq_true, Int.reduceEq, Int.reduceBEq, and_self])

namespace K43
open PySem L2 DL
theorem shelfN : ∀ sk ∈ shelves, sk ≠ [] := by decide +kernel
section
variable {P : Program} {w : World} {K : PySem.W.Frag} {mg : Str → Option Value} {base : Heap}
theorem ok__law_shelf (T : Tx K mg) : FnOk P w K mg base CX0 2 T.a__law_shelf T.d__law_shelf ["draw"] (spD K C__law_shelf) :=
  DL.Fun.okD (N := ["draw"]) T.F__law_shelf sc__law_shelf (fun cdv A outer s H E hr => 
      (dss_one (ds_ret (de_ix ix_seq od_ix (de_lst (da_cons (de_tup (da_cons (de_str) da_nil)) (da_cons (de_tup (da_cons (de_str) (da_cons (de_str) da_nil))) (da_cons (de_tup (da_cons (de_str) (da_cons (de_str) da_nil))) (da_cons (de_tup (da_cons (de_str) (da_cons (de_str) (da_cons (de_str) da_nil)))) (da_cons (de_tup (da_cons (de_str) da_nil)) da_nil)))))) (de_call (ok__law_next T) (hr.mono (by decide)) (by rfl) T.m__law_next T.k__law_next T.v__law_next pass0 (da_cons (dv 0) (da_cons de_int da_nil))) (fun _ _ => rfl)))))
    (by intro ds μ Q h; unfold C__law_shelf at h; split at h <;> first | rfl | exact h.elim) (by
  intro ds μ Q h
  unfold C__law_shelf at h
  split at h
  · obtain ⟨hd, hq⟩ := h
    (walk_at "dl")
    refine ⟨hd, by decide, by decide, fun i i0 i1 => ?_⟩
    (walk_at "dl")
    show ∃ d, atI (shelves.map eKeys) i = some d ∧ Q d μ
    have hlen : (shelves.length : Int) = 5 := rfl
    rw [atI_map, atG [] i0 (by omega)]
    refine ⟨_, rfl, hq _ ?_⟩
    rw [List.getD_eq_getElem?_getD, List.getElem?_eq_getElem (by omega)]
    exact List.getElem_mem _
  · exact h.elim
)

theorem ok__law_told (T : Tx K mg) : FnOk P w K mg base CX0 2 T.a__law_told T.d__law_told ["draw", "shelf", "table", "most"] (spD K C__law_told) :=
  DL.Fun.okD (N := ["draw", "shelf", "table", "most", "form", "key", "version", "commit", "more", "other", "k"]) T.F__law_told sc__law_told (fun cdv A outer s H E hr => 
      (dss_cons (ds_set 4 sc__law_told.nd (de_call (ok__law_next T) (hr.mono (by decide)) (by rfl) T.m__law_next T.k__law_next T.v__law_next pass0 (da_cons (dv 0) (da_cons de_int da_nil)))) 
      (dss_cons (ds_set 5 sc__law_told.nd (de_ix ix_seq od_ix (dv 1) (de_call (ok__law_next T) (hr.mono (by decide)) (by rfl) T.m__law_next T.k__law_next T.v__law_next pass0 (da_cons (dv 0) (da_cons (de_B L2.call_len cd_len (by rfl) T.b_len (by decide +kernel) (da_cons (dv 1) da_nil)) da_nil))) (fun _ _ => rfl))) 
      (dss_cons (ds_if (dt_cmp op_gtD od_gt (dv 4) de_int (nomark _)) 
      (dss_one (ds_ret (de_tup (da_cons (de_str) (da_cons (dv 5) (da_cons (de_op op_addD od_add de_int (de_call (ok__law_next T) (hr.mono (by decide)) (by rfl) T.m__law_next T.k__law_next T.v__law_next pass0 (da_cons (dv 0) (da_cons de_int da_nil)))) (da_cons (de_op op_sub od_sub (de_call (ok__law_next T) (hr.mono (by decide)) (by rfl) T.m__law_next T.k__law_next T.v__law_next pass0 (da_cons (dv 0) (da_cons de_int da_nil))) de_int) da_nil))))))) dss_nil) 
      (dss_cons (ds_set 6 sc__law_told.nd (de_op op_addD od_add de_int (de_call (ok__law_next T) (hr.mono (by decide)) (by rfl) T.m__law_next T.k__law_next T.v__law_next pass0 (da_cons (dv 0) (da_cons (dv 3) da_nil))))) 
      (dss_cons (ds_set 7 sc__law_told.nd (de_ix ix_seq od_ix (dv 2) (de_op op_sub od_sub (dv 6) de_int) (fun _ _ => rfl))) 
      (dss_cons (ds_if (dt_cmp (op_eqD hr.units) od_eq (dv 4) de_int (nomark _)) 
      (dss_one (ds_ret (de_tup (da_cons (de_str) (da_cons (dv 6) (da_cons (dv 7) da_nil)))))) dss_nil) 
      (dss_cons (ds_if (dt_cmp (op_eqD hr.units) od_eq (dv 4) de_int (nomark _)) 
      (dss_one (ds_ret (de_tup (da_cons (de_str) (da_cons (dv 6) (da_cons (de_B L2.call_len cd_len (by rfl) T.b_len (by decide +kernel) (da_cons (dv 7) da_nil)) da_nil)))))) dss_nil) 
      (dss_cons (ds_if (dt_cmp (op_eqD hr.units) od_eq (dv 4) de_int (nomark _)) 
      (dss_cons (ds_setLc 8 [("other", 9)] rfl sc__law_told.nd (sw_true rfl rfl rfl (by decide +kernel)) (di_seq (dv 1)) (blkOk_by (sc := (defScope s__law_told)) (own := [("other", 9)]) (N := ["draw", "shelf", "table", "most", "form", "key", "version", "commit", "more", "other", "k"]) (by decide +kernel)) (fun _ _ _ _ _ => (dg_name 9 sc__law_told.nd)) (fun _ _ _ _ _ => dts_one (dw_pt (dw_or (dt_cmp op_inD2 od_in (dv 9) (dv 7) (by rfl)) (dw_or1 (dt_tru (de_call (ok__law_next T) (hr.mono (by decide)) (by rfl) T.m__law_next T.k__law_next T.v__law_next pass0 (da_cons (dv 0) (da_cons de_int da_nil)))))))) (fun _ _ _ _ _ => (dv 9))) 
      (dss_one (ds_ret (de_tup (da_cons (de_str) (da_cons (dv 6) (da_cons (de_T call_tuple_of cd_tuple (by rfl) T.b_tuple (by decide +kernel) (da_cons (dv 8) da_nil)) da_nil))))))) dss_nil) 
      (dss_cons (ds_if (dt_cmp (op_eqD hr.units) od_eq (dv 4) de_int (nomark _)) 
      (dss_one (ds_ret (de_tup (da_cons (de_str) (da_cons (dv 6) (da_cons (de_ix ix_seq od_ix (dv 7) (de_call (ok__law_next T) (hr.mono (by decide)) (by rfl) T.m__law_next T.k__law_next T.v__law_next pass0 (da_cons (dv 0) (da_cons (de_B L2.call_len cd_len (by rfl) T.b_len (by decide +kernel) (da_cons (dv 7) da_nil)) da_nil))) (fun _ _ => rfl)) da_nil)))))) dss_nil) 
      (dss_cons (ds_if (dw_pt (dw_and (dt_cmp (op_eqD hr.units) od_eq (dv 4) de_int (nomark _)) (dw_and1 (dt_cmp (op_eqD hr.units) od_eq (de_call (ok__law_next T) (hr.mono (by decide)) (by rfl) T.m__law_next T.k__law_next T.v__law_next pass0 (da_cons (dv 0) (da_cons de_int da_nil))) de_int (nomark _))))) 
      (dss_one (ds_ret (de_tup (da_cons (de_str) (da_cons (dv 6) da_nil))))) dss_nil) 
      (dss_one (ds_ret (de_tup (da_cons (de_str) (da_cons (dv 5) (da_cons (dv 6) (da_cons (de_B L2.call_len cd_len (by rfl) T.b_len (by decide +kernel) (da_cons (de_lc [("k", 10)] rfl sc__law_told.nd (di_rg1 (by rfl) T.b_range (da_cons (dv 6) da_nil)) (blkOk_by (sc := (defScope s__law_told)) (own := [("k", 10)]) (N := ["draw", "shelf", "table", "most", "form", "key", "version", "commit", "more", "other", "k"]) (by decide +kernel)) (fun _ _ _ _ _ => (dg_name 10 sc__law_told.nd)) (fun _ _ _ _ _ => dts_one (dt_cmp op_inD2 od_in (dv 5) (de_ix ix_seq od_ix (dv 2) (dv 10) (fun _ _ => rfl)) (by rfl))) (fun _ _ _ _ _ => (dv 10))) da_nil)) da_nil))))))))))))))))))
    (by intro ds μ Q h; unfold C__law_told at h; split at h <;> first | rfl | exact h.elim) (by
  intro ds μ Q h
  unfold C__law_told at h
  split at h
  · rename_i ds' dr s t m
    obtain ⟨hd, sk, hs, tb, rfl, rfl, hm, h1, h4, hc, hq⟩ := h
    have hl := shelf3 sk hs
    have hn : 0 < sk.length := List.length_pos_iff.mpr (shelfN sk hs)
    (walk_at "dl")
    refine ⟨hd, by decide, by decide, fun f f0 f1 => ?_⟩
    unfold eKeys
    (walk_at "dl")
    refine ⟨hd, by rw [List.length_map]; omega, by rw [List.length_map]; omega, fun i i0 i1 => ?_⟩
    rw [List.length_map] at i1
    (walk_at "dl")
    rw [atI_map, atG ⟨#[]⟩ i0 (by omega)]
    refine ⟨_, rfl, ?_⟩
    generalize sk.getD i.toNat ⟨#[]⟩ = key
    by_cases c5 : 5 < f
    · rw [if_pos c5]
      refine ⟨hd, by decide, by decide, fun a a0 a1 => ?_⟩
      (walk_at "dl")
      refine ⟨hd, by decide, by decide, fun b b0 b1 => ?_⟩
      (walk_at "dl")
      exact hq (.value key (1 + a) (b - 1)) (show 1 ≤ 1 + a by omega)
    · rw [if_neg c5]
      refine ⟨hd, by omega, by omega, fun a a0 a1 => ?_⟩
      unfold eTab
      (walk_at "dl")
      rw [atI_map, atG [] (by omega) (by omega)]
      refine ⟨_, rfl, ?_⟩
      have hcm : tb.getD (1 + a - 1).toNat [] ∈ tb := by
        rw [List.getD_eq_getElem?_getD, List.getElem?_eq_getElem (by omega)]
        exact List.getElem_mem _
      have hcc := hc _ hcm
      generalize tb.getD (1 + a - 1).toNat [] = cm at hcm hcc
      obtain ⟨n1, n2⟩ := hcc
      have n0 : 0 < cm.length := List.length_pos_iff.mpr n1
      have ov : 1 ≤ 1 + a ∧ 1 + a ≤ m := by omega
      unfold eKeys
      (walk_at "dl")
      by_cases e0 : f = 0
      · rw [if_pos e0]
        exact hq (.wrote (1 + a) cm) ov
      · rw [if_neg e0]
        by_cases e1 : f = 1
        · rw [if_pos e1]
          rw [List.length_map]
          exact hq (.many (1 + a) cm.length) ov
        · rw [if_neg e1]
          by_cases e2 : f = 2
          · rw [if_pos e2]
            refine lc_byT sk D.str (fun k r => r = some (D.str k) ∨ r = none) (seq_t fun R h => ?_) (fun k hk p acc hp N hN => ?_) fun rs hrs => ?_
            · (walk_at "dl")
              exact h
            · (walk_at "dl")
              refine ⟨flat_strs cm, ?_⟩
              rw [any_str]
              by_cases hkc : k ∈ cm
              · simp only [hkc, decide_true, if_true]
                exact hN _ (Or.inl rfl)
              · simp only [hkc, decide_false, Bool.false_eq_true, if_false]
                refine ⟨by rw [Mu.put_ne (Mu.ne_of hd hp)]; exact hd, by decide, by decide, fun x x0 x1 => ?_⟩
                (walk_at "dl")
                by_cases hx : x = 0
                · subst hx
                  exact hN _ (Or.inr rfl)
                · rw [if_pos (by simp [hx])]
                  exact hN _ (Or.inl rfl)
            · (walk_at "dl")
              have hk : ∀ (l : List Str) (rs : List (Option D)), All2 (fun k r => r = some (D.str k) ∨ r = none) l rs → ∃ ks : List Str, rs.filterMap id = ks.map D.str := by
                intro l rs h
                induction h with
                | nil => exact ⟨[], rfl⟩
                | @cons k r l rs h1 h2 ih =>
                  obtain ⟨ks, e⟩ := ih
                  rcases h1 with rfl | rfl
                  · exact ⟨k :: ks, by simp [e]⟩
                  · exact ⟨ks, by simp [e]⟩
              obtain ⟨ks, e⟩ := hk _ _ hrs
              rw [e]
              exact hq (.among (1 + a) ks) ov
          · rw [if_neg e2]
            by_cases e3 : f = 3
            · rw [if_pos e3]
              refine ⟨hd, by rw [List.length_map]; omega, by rw [List.length_map]; omega, fun b b0 b1 => ?_⟩
              rw [List.length_map] at b1
              (walk_at "dl")
              rw [atI_map, atG ⟨#[]⟩ b0 (by omega)]
              refine ⟨_, rfl, ?_⟩
              exact hq (.did (1 + a) _) ov
            · rw [if_neg e3]
              by_cases e4 : f = 4
              · rw [if_pos e4]
                refine ⟨hd, by decide, by decide, fun x x0 x1 => ⟨p_i, ?_⟩⟩
                (walk_at "dl")
                by_cases hx : x = 0
                · rw [if_pos hx]
                  exact hq (.head (1 + a)) ⟨by omega, by omega⟩
                · rw [if_neg hx]
                  refine lc_fmapT (List.range (1 + a).toNat) (fun i => D.int (0 + (i : Nat))) (fK tb key) (rg1 ⟨by omega, by omega⟩ fun R h => ?_) (fun i hi p acc hp N hN => ?_) ?_
                  · (walk_at "dl")
                    exact h
                  · have hi' := List.mem_range.mp hi
                    (walk_at "dl")
                    rw [atI_map, atG [] (by omega) (by omega)]
                    have e0 : (0 + (i : Int)).toNat = i := by omega
                    rw [e0]
                    refine ⟨_, rfl, ?_⟩
                    (walk_at "dl")
                    refine ⟨flat_strs _, ?_⟩
                    rw [any_str]
                    by_cases hk : key ∈ tb.getD i []
                    · simp only [hk, decide_true, if_true]
                      exact hN _ (by unfold fK; rw [if_pos hk])
                    · simp only [hk, decide_false, Bool.false_eq_true, if_false]
                      exact hN _ (by unfold fK; rw [if_neg hk])
                  · (walk_at "dl")
                    exact hq (.times key (1 + a) _) ⟨by omega, by omega⟩
              · rw [if_neg e4]
                refine lc_fmapT (List.range (1 + a).toNat) (fun i => D.int (0 + (i : Nat))) (fK tb key) (rg1 ⟨by omega, by omega⟩ fun R h => ?_) (fun i hi p acc hp N hN => ?_) ?_
                · (walk_at "dl")
                  exact h
                · have hi' := List.mem_range.mp hi
                  (walk_at "dl")
                  rw [atI_map, atG [] (by omega) (by omega)]
                  have e0 : (0 + (i : Int)).toNat = i := by omega
                  rw [e0]
                  refine ⟨_, rfl, ?_⟩
                  (walk_at "dl")
                  refine ⟨flat_strs _, ?_⟩
                  rw [any_str]
                  by_cases hk : key ∈ tb.getD i []
                  · simp only [hk, decide_true, if_true]
                    exact hN _ (by unfold fK; rw [if_pos hk])
                  · simp only [hk, decide_false, Bool.false_eq_true, if_false]
                    exact hN _ (by unfold fK; rw [if_neg hk])
                · (walk_at "dl")
                  exact hq (.times key (1 + a) _) ⟨by omega, by omega⟩
  · exact h.elim
)

theorem ok__law_bent (T : Tx K mg) : FnOk P w K mg base CX0 2 T.a__law_bent T.d__law_bent ["draw", "shelf", "piece"] (spD K C__law_bent) :=
  DL.Fun.okD (N := ["draw", "shelf", "piece", "form", "commits"]) T.F__law_bent sc__law_bent (fun cdv A outer s H E hr => 
      (dss_cons (ds_set 3 sc__law_bent.nd (de_call (ok__law_next T) (hr.mono (by decide)) (by rfl) T.m__law_next T.k__law_next T.v__law_next pass0 (da_cons (dv 0) (da_cons de_int da_nil)))) 
      (dss_cons (ds_if (dt_cmp (op_eqD hr.units) od_eq (de_ix ix_seq od_ix (dv 2) de_int (fun _ _ => rfl)) (de_str) (nomark _)) 
      (dss_one (ds_ret (de_tup (da_cons (de_str) (da_cons (de_ix ix_seq od_ix (dv 2) de_int (fun _ _ => rfl)) (da_cons (de_op op_mulD od_mul (de_ix ix_seq od_ix (dv 2) de_int (fun _ _ => rfl)) (de_cmp op_gtD od_gt (dv 3) de_int (nomark _))) (da_cons (de_B (call_max2 rfl) cd_max2 (by rfl) T.b_max (by decide +kernel) (da_cons de_int (da_cons (de_op op_sub od_sub (de_op op_addD od_add (de_ix ix_seq od_ix (dv 2) de_int (fun _ _ => rfl)) (de_op op_mod od_mod (dv 3) de_int)) de_int) da_nil))) da_nil))))))) dss_nil) 
      (dss_cons (ds_if (dt_cmp (op_eqD hr.units) od_eq (de_ix ix_seq od_ix (dv 2) de_int (fun _ _ => rfl)) (de_str) (nomark _)) 
      (dss_one (ds_ret (de_tup (da_cons (de_str) (da_cons (de_ix ix_seq od_ix (dv 2) de_int (fun _ _ => rfl)) (da_cons (de_op op_addD od_add de_int (de_call (ok__law_next T) (hr.mono (by decide)) (by rfl) T.m__law_next T.k__law_next T.v__law_next pass0 (da_cons (dv 0) (da_cons de_int da_nil)))) da_nil)))))) dss_nil) 
      (dss_cons (ds_if (dw_pt (dw_and (dt_cmp op_inD2 od_in (de_ix ix_seq od_ix (dv 2) de_int (fun _ _ => rfl)) (de_tup (da_cons (de_str) (da_cons (de_str) da_nil))) (by rfl)) (dw_and1 (dt_cmp (op_eqD hr.units) od_eq (dv 3) de_int (nomark _))))) 
      (dss_one (ds_ret (de_tup (da_cons (de_ix ix_seq od_ix (dv 2) de_int (fun _ _ => rfl)) (da_cons (de_ix ix_seq od_ix (dv 2) de_int (fun _ _ => rfl)) (da_cons (de_tup (da_cons (de_str) da_nil)) da_nil)))))) dss_nil) 
      (dss_cons (ds_if (dt_cmp op_inD2 od_in (de_ix ix_seq od_ix (dv 2) de_int (fun _ _ => rfl)) (de_tup (da_cons (de_str) (da_cons (de_str) da_nil))) (by rfl)) 
      (dss_cons (ds_set 4 sc__law_bent.nd (de_call (ok__law_commits T) (hr.mono (by decide)) (by rfl) T.m__law_commits T.k__law_commits T.v__law_commits pass0 (da_cons (dv 1) da_nil))) 
      (dss_one (ds_ret (de_tup (da_cons (de_ix ix_seq od_ix (dv 2) de_int (fun _ _ => rfl)) (da_cons (de_ix ix_seq od_ix (dv 2) de_int (fun _ _ => rfl)) (da_cons (de_ix ix_seq od_ix (dv 4) (de_call (ok__law_next T) (hr.mono (by decide)) (by rfl) T.m__law_next T.k__law_next T.v__law_next pass0 (da_cons (dv 0) (da_cons (de_B L2.call_len cd_len (by rfl) T.b_len (by decide +kernel) (da_cons (dv 4) da_nil)) da_nil))) (fun _ _ => rfl)) da_nil))))))) dss_nil) 
      (dss_cons (ds_if (dt_cmp (op_eqD hr.units) od_eq (de_ix ix_seq od_ix (dv 2) de_int (fun _ _ => rfl)) (de_str) (nomark _)) 
      (dss_one (ds_ret (de_tup (da_cons (de_str) (da_cons (de_ix ix_seq od_ix (dv 2) de_int (fun _ _ => rfl)) (da_cons (de_if (dt_tru (dv 3)) (de_ix ix_seq od_ix (dv 1) (de_call (ok__law_next T) (hr.mono (by decide)) (by rfl) T.m__law_next T.k__law_next T.v__law_next pass0 (da_cons (dv 0) (da_cons (de_B L2.call_len cd_len (by rfl) T.b_len (by decide +kernel) (da_cons (dv 1) da_nil)) da_nil))) (fun _ _ => rfl)) (de_str)) da_nil)))))) dss_nil) 
      (dss_one (ds_ret (dv 2))))))))))
    (by intro ds μ Q h; unfold C__law_bent at h; split at h <;> first | rfl | exact h.elim) (by
  intro ds μ Q h
  unfold C__law_bent at h
  split at h
  · rename_i ds' dr s pp
    obtain ⟨hd, sk, hs, q, m, rfl, rfl, ho, hq⟩ := h
    have hl := shelf3 sk hs
    have hn : 0 < sk.length := List.length_pos_iff.mpr (shelfN sk hs)
    (walk_at "dl")
    refine ⟨hd, by decide, by decide, fun f f0 f1 => ?_⟩
    cases q <;> unfold ePc <;> (walk_at "dl")
    · rename_i v ks
      by_cases e0 : f = 0
      · rw [if_pos e0]
        exact hq (.wrote v ["zz"]) ho
      · rw [if_neg e0]
        refine ⟨sk, hs, rfl, fun cs c1 c2 c3 => ?_⟩
        have n0 : 0 < cs.length := List.length_pos_iff.mpr c1
        (walk_at "dl")
        refine ⟨hd, by rw [List.length_map]; omega, by rw [List.length_map]; omega, fun b b0 b1 => ?_⟩
        rw [List.length_map] at b1
        (walk_at "dl")
        rw [atI_map, atG [] b0 (by omega)]
        refine ⟨_, rfl, ?_⟩
        exact hq (.wrote v _) ho
    · refine ⟨hd, by decide, by decide, fun a a0 a1 => ?_⟩
      (walk_at "dl")
      exact hq (.many _ _) ho
    · rename_i v ks
      by_cases e0 : f = 0
      · rw [if_pos e0]
        exact hq (.among v ["zz"]) ho
      · rw [if_neg e0]
        refine ⟨sk, hs, rfl, fun cs c1 c2 c3 => ?_⟩
        have n0 : 0 < cs.length := List.length_pos_iff.mpr c1
        (walk_at "dl")
        refine ⟨hd, by rw [List.length_map]; omega, by rw [List.length_map]; omega, fun b b0 b1 => ?_⟩
        rw [List.length_map] at b1
        (walk_at "dl")
        rw [atI_map, atG [] b0 (by omega)]
        refine ⟨_, rfl, ?_⟩
        exact hq (.among v _) ho
    · rename_i v k
      by_cases e0 : f = 0
      · rw [if_neg (by simp [e0])]
        exact hq (.did v "zz") ho
      · rw [if_pos (by simp [e0])]
        unfold eKeys
        (walk_at "dl")
        refine ⟨hd, by rw [List.length_map]; omega, by rw [List.length_map]; omega, fun b b0 b1 => ?_⟩
        rw [List.length_map] at b1
        (walk_at "dl")
        rw [atI_map, atG ⟨#[]⟩ b0 (by omega)]
        exact ⟨_, rfl, hq (.did v _) ho⟩
    · rename_i k v n
      refine ⟨by decide, hq (.times _ _ _) ?_⟩
      have h1 := ho.1; have h2 := ho.2
      by_cases hf : 0 < f
      · simp only [hf, decide_true, b2I, if_true]
        exact ⟨by omega, by omega⟩
      · simp only [hf, decide_false, b2I, Bool.false_eq_true, if_false]
        exact ⟨by omega, by omega⟩
    · exact hq (.value _ _ _) ho
    · exact hq (.head _) ho
  · exact h.elim
)

theorem ok__law_history (T : Tx K mg) : FnOk P w K mg base CX0 2 T.a__law_history T.d__law_history ["draw", "shelf", "many"] (spD K C__law_history) :=
  DL.Fun.okD (N := ["draw", "shelf", "many", "commits", "history", "k", "commit", "key"]) T.F__law_history sc__law_history (fun cdv A outer s H E hr => 
      (dss_cons (ds_set 3 sc__law_history.nd (de_call (ok__law_commits T) (hr.mono (by decide)) (by rfl) T.m__law_commits T.k__law_commits T.v__law_commits pass0 (da_cons (dv 1) da_nil))) 
      (dss_cons (ds_set 4 sc__law_history.nd (de_lstM da_nil)) 
      (dss_cons (ds_for PassesOwn.never rfl (di_rg1 (by rfl) T.b_range (da_cons (dv 2) da_nil)) (dg_name 5 sc__law_history.nd) 
      (dss_cons (ds_set 6 sc__law_history.nd (de_ix ix_seq od_ix (dv 3) (de_call (ok__law_next T) (hr.mono (by decide)) (by rfl) T.m__law_next T.k__law_next T.v__law_next pass0 (da_cons (dv 0) (da_cons (de_B L2.call_len cd_len (by rfl) T.b_len (by decide +kernel) (da_cons (dv 3) da_nil)) da_nil))) (fun _ _ => rfl))) 
      (dss_one (ds_app (dv 4) (de_T call_tuple_of cd_tuple (by rfl) T.b_tuple (by decide +kernel) (da_cons (de_lc [("key", 7)] rfl sc__law_history.nd (di_seq (dv 6)) (blkOk_by (sc := (defScope s__law_history)) (own := [("key", 7)]) (N := ["draw", "shelf", "many", "commits", "history", "k", "commit", "key"]) (by decide +kernel)) (fun _ _ _ _ _ => (dg_name 7 sc__law_history.nd)) (fun _ _ _ _ _ => dts_nil) (fun _ _ _ _ _ => (de_tup (da_cons (dv 7) (da_cons (de_op op_sub od_sub (de_call (ok__law_next T) (hr.mono (by decide)) (by rfl) T.m__law_next T.k__law_next T.v__law_next pass0 (da_cons (dv 0) (da_cons de_int da_nil))) de_int) da_nil))))) da_nil)))))) 
      (dss_frz 4 (dss_one (ds_ret (dv 4))))))))
    (by intro ds μ Q h; unfold C__law_history at h; split at h <;> first | rfl | exact h.elim) (by
  intro ds μ Q h
  unfold C__law_history at h
  split at h
  · rename_i ds' dr s m
    obtain ⟨hd, sk, hs, rfl, h1, h4, hq⟩ := h
    (walk_at "dl")
    refine ⟨sk, hs, rfl, fun cs c1 c2 c3 => ?_⟩
    have n0 : 0 < cs.length := List.length_pos_iff.mpr c1
    (walk_at "dl")
    intro p hp
    have hdp : ∀ acc : List D, (μ.put p (.lst acc)) dr = some .draw := fun acc => by rw [Mu.put_ne (Mu.ne_of hd hp)]; exact hd
    refine for_map (fun i : Nat => D.int (0 + (i : Nat))) (List.range m.toNat) (fun pre ρ' μ' => (∃ a b c, ρ' = [some (.ptr dr), some (eKeys sk), some (.int m), some (.lst (cs.map eKeys)), some (.ptr p), a, b, c]) ∧ ∃ hs : List Com, μ' = μ.put p (.lst (hs.map eCom)) ∧ okH sk hs ∧ hs.length = pre.length) (rg1 ⟨by omega, by omega⟩ fun R h => ?_) ⟨⟨_, _, _, rfl⟩, [], rfl, (fun c hc => by cases hc), rfl⟩ (fun pre i post ρ' μ' e hI => ?_) fun ρ' μ' hI => ?_
    · (walk_at "dl")
      exact h
    · obtain ⟨⟨a, b, c, rfl⟩, hh, rfl, ho, hlen⟩ := hI
      (walk_at "dl")
      refine ⟨hdp _, by rw [List.length_map]; omega, by rw [List.length_map]; omega, fun b b0 b1 => ?_⟩
      rw [List.length_map] at b1
      (walk_at "dl")
      rw [atI_map, atG [] b0 (by omega)]
      refine ⟨_, rfl, ?_⟩
      have hcm : cs.getD b.toNat [] ∈ cs := by
        rw [List.getD_eq_getElem?_getD, List.getElem?_eq_getElem (by omega)]
        exact List.getElem_mem _
      have hcc := c3 _ hcm
      generalize cs.getD b.toNat [] = cm at hcm hcc
      refine ⟨p, _, rfl, Mu.put_same, ?_⟩
      refine lc_byT cm D.str (fun k r => ∃ x : Int, r = some (ePair (k, x))) (seq_t fun R h => ?_) (fun k hk q acc hq' N hN => ?_) fun rs hrs => ?_
      · (walk_at "dl")
        exact h
      · (walk_at "dl")
        refine ⟨by rw [Mu.put_ne (Mu.ne_of (hdp _) hq')]; exact hdp _, by decide, by decide, fun x x0 x1 => ?_⟩
        (walk_at "dl")
        exact hN _ ⟨x - 1, rfl⟩
      · (walk_at "dl")
        have hk : ∀ (l : List Str) (rs : List (Option D)), All2 (fun k r => ∃ x : Int, r = some (ePair (k, x))) l rs → ∃ c : Com, rs.filterMap id = c.map ePair ∧ keysOf c = l := by
          intro l rs h
          induction h with
          | nil => exact ⟨[], rfl, rfl⟩
          | @cons k r l rs h1 h2 ih =>
            obtain ⟨c, e, e2⟩ := ih
            obtain ⟨x, rfl⟩ := h1
            exact ⟨(k, x) :: c, by simp [e], by unfold keysOf at e2 ⊢; simp [e2]⟩
        obtain ⟨c, e1, e2⟩ := hk _ _ hrs
        have hi := congrArg List.length e
        simp only [List.length_range, List.length_append, List.length_cons] at hi
        refine ⟨_, Mu.put_same, sz_small' (by rw [List.length_map, hlen]; omega), ⟨_, _, _, rfl⟩, hh ++ [c], ?_, ?_, by simp [hlen]⟩
        · rw [Mu.put_put, e1, List.map_append]
          rfl
        · intro c' hc'
          rcases List.mem_append.mp hc' with h | h
          · exact ho c' h
          · simp at h
            subst h
            rw [e2]
            exact ⟨fun h0 => hcc.1 (by rw [← e2, h0]; rfl), hcc.2⟩
    · obtain ⟨⟨a, b, c, rfl⟩, hh, rfl, ho, hlen⟩ := hI
      (walk_at "dl")
      refine ⟨p, _, rfl, Mu.put_same, ?_⟩
      rw [Mu.put_del hp]
      exact hq hh ho (by rw [hlen, List.length_range]; omega)
  · exact h.elim
)

end
end K43
end

-- part P9
section
local macro_rules | `(tactic| walk_at "dl") => `(tactic| simp only [DL.sRet, DL.sSeq, DL.sSet, DL.sIf, DL.sNext, DL.sNever, DL.sDrop, DL.sAsg, DL.sRetN, DL.dVar, DL.dC, DL.dOp, DL.dTest, DL.dAnd, DL.dOr, DL.dNot, DL.dTru, DL.dAndV, DL.dOrV, DL.dNotV, DL.dIf, DL.aNil, DL.aCons, DL.dTup, DL.dLst, DL.dLstM, DL.dCall, DL.dFrz, DL.dB, DL.dNeg, DL.dSl, DL.oNone, DL.oSome, DL.dChn, DL.gN, DL.gT, DL.setAll,
  DL.ix_l, DL.ix_t, DL.ix_s, DL.ix_p, DL.add_i, DL.add_s, DL.add_l, DL.add_t, DL.mul_i, DL.mul_b, DL.sub_i, DL.fdiv_i, DL.mod_i, DL.pow_i, DL.shl_i, DL.shr_i, DL.and_i, DL.lt_i, DL.le_i, DL.gt_i, DL.ge_i, DL.le_s, DL.in_t, DL.in_l, DL.in_s, DL.len_l, DL.len_t, DL.len_s, DL.len_p, DL.list_l, DL.list_t, DL.list_s, DL.list_p, DL.tuple_l, DL.tuple_t, DL.int_i, DL.int_b, DL.abs_i, DL.max_i, DL.min_i, DL.all_l, DL.any_l, DL.isi_1, DL.isi_n, DL.sl_l, DL.sl_t, DL.sl_s, DL.neg_i, DL.isN_i, DL.notN_i, DL.eq_x, DL.ne_x,
  DL.w_wrote_many, DL.w_wrote_many_b, DL.w_wrote_among, DL.w_wrote_among_b, DL.w_wrote_did, DL.w_wrote_did_b, DL.w_wrote_times, DL.w_wrote_times_b, DL.w_wrote_value, DL.w_wrote_value_b, DL.w_wrote_head, DL.w_wrote_head_b, DL.w_many_wrote, DL.w_many_wrote_b, DL.w_many_among, DL.w_many_among_b, DL.w_many_did, DL.w_many_did_b, DL.w_many_times, DL.w_many_times_b, DL.w_many_value, DL.w_many_value_b, DL.w_many_head, DL.w_many_head_b, DL.w_among_wrote, DL.w_among_wrote_b, DL.w_among_many, DL.w_among_many_b, DL.w_among_did, DL.w_among_did_b, DL.w_among_times, DL.w_among_times_b, DL.w_among_value, DL.w_among_value_b, DL.w_among_head, DL.w_among_head_b, DL.w_did_wrote, DL.w_did_wrote_b, DL.w_did_many, DL.w_did_many_b, DL.w_did_among, DL.w_did_among_b, DL.w_did_times, DL.w_did_times_b, DL.w_did_value, DL.w_did_value_b, DL.w_did_head, DL.w_did_head_b, DL.w_times_wrote, DL.w_times_wrote_b, DL.w_times_many, DL.w_times_many_b, DL.w_times_among, DL.w_times_among_b, DL.w_times_did, DL.w_times_did_b, DL.w_times_value, DL.w_times_value_b, DL.w_times_head, DL.w_times_head_b, DL.w_value_wrote, DL.w_value_wrote_b, DL.w_value_many, DL.w_value_many_b, DL.w_value_among, DL.w_value_among_b, DL.w_value_did, DL.w_value_did_b, DL.w_value_times, DL.w_value_times_b, DL.w_value_head, DL.w_value_head_b, DL.w_head_wrote, DL.w_head_wrote_b, DL.w_head_many, DL.w_head_many_b, DL.w_head_among, DL.w_head_among_b, DL.w_head_did, DL.w_head_did_b, DL.w_head_times, DL.w_head_times_b, DL.w_head_value, DL.w_head_value_b,
  DL.q_ss, DL.q_ii, DL.q_bb, DL.q_nn, DL.q_tt, DL.q_ll, DL.q_si, DL.q_sn, DL.q_st, DL.q_sl, DL.q_is, DL.q_in, DL.q_it, DL.q_il, DL.q_ns, DL.q_ni, DL.q_nt, DL.q_nl, DL.q_ts, DL.q_ti, DL.q_tn, DL.q_tl, DL.q_ls, DL.q_li, DL.q_ln, DL.q_lt, DL.qs_nil, DL.qs_cons, DL.qs_nc, DL.qs_cn, DL.p_t16, DL.p_l16, DL.p_t15, DL.p_l15, DL.p_t14, DL.p_l14, DL.p_t13, DL.p_l13, DL.p_t12, DL.p_l12, DL.p_s, DL.p_i, DL.p_b, DL.p_n, DL.ps_nil, DL.ps_cons, DL.t_b, DL.t_i, DL.t_l, DL.t_t, DL.t_n, DL.n_n, DL.n_i, DL.n_s, DL.n_t, DL.n_l, DL.n_b, DL.f_s, DL.f_i,
  Bool.false_and, Bool.and_false, DL.z0, DL.z1, DL.z2, DL.z3, DL.z4, DL.z5, DL.z6, DL.z12,
  DL.startD, DL.sFrz, DL.sApp, DL.yesD, DL.lcTurn, DL.wipeE, DL.at0, DL.at1, DL.at2, DL.at3, DL.at4, List.map_cons, List.map_nil, List.replicate_succ, List.replicate_zero, List.length_cons, List.length_nil, List.cons_append, List.nil_append, List.set_cons_zero, List.set_cons_succ, List.getElem?_cons_zero, List.getElem?_cons_succ, Option.some.injEq, exists_eq_left, exists_eq_left', exists_eq', exists_eq, true_and, and_true, decide_eq_true_eq, if_true, if_false, Bool.false_eq_true, reduceIte, Nat.reduceAdd, Nat.reduceSub, DL.D.bl.injEq, DL.D.int.injEq, DL.D.str.injEq, DL.D.tup.injEq, DL.D.lst.injEq, DL.D.ptr.injEq, Bool.not_true, Bool.not_false, beq_self_eq_true, List.all_cons, List.all_nil, List.any_cons, List.any_nil, Bool.and_true, Bool.true_and, Bool.or_false, Bool.false_or, Bool.or_true, Bool.true_or, Bool.false_xor, Bool.true_xor, beq_iff_eq, Bool.not_eq_true, Int.reduceEq, Int.reduceBEq, and_self])

namespace K43
open PySem L2 DL
section
variable {P : Program} {w : World} {K : PySem.W.Frag} {mg : Str → Option Value} {base : Heap}
theorem ok__law_agrees (T : Tx K mg) : FnOk P w K mg base CX0 2 T.a__law_agrees T.d__law_agrees ["shelf", "history", "news"] (spD K C__law_agrees) :=
  DL.Fun.okD (N := ["shelf", "history", "news", "table", "piece", "written"]) T.F__law_agrees sc__law_agrees (fun cdv A outer s H E hr => 
      (dss_cons (ds_set 3 sc__law_agrees.nd (de_call (ok__law_keys T) (hr.mono (by decide)) (by rfl) T.m__law_keys T.k__law_keys T.v__law_keys pass0 (da_cons (dv 1) da_nil))) 
      (dss_cons (ds_if (dw_pt (dw_or (dt_cmp (op_neD hr.units) od_ne (de_call (ok__law_head T) (hr.mono (by decide)) (by rfl) T.m__law_head T.k__law_head T.v__law_head pass0 (da_cons (dv 2) da_nil)) (de_B L2.call_len cd_len (by rfl) T.b_len (by decide +kernel) (da_cons (dv 3) da_nil)) (nomark _)) (dw_or1 (dt_tru (de_call (ok__law_values_clash T) (hr.mono (by decide)) (by rfl) T.m__law_values_clash T.k__law_values_clash T.v__law_values_clash pass0 (da_cons (dv 2) da_nil)))))) 
      (dss_one (ds_ret de_bl)) dss_nil) 
      (dss_cons (ds_for PassesOwn.never rfl (di_seq (dv 2)) (dg_name 4 sc__law_agrees.nd) 
      (dss_cons (ds_if (dt_not (dt_tru (de_call (ok__law_holds T) (hr.mono (by decide)) (by rfl) T.m__law_holds T.k__law_holds T.v__law_holds pass0 (da_cons (dv 0) (da_cons (dv 3) (da_cons (dv 4) da_nil)))))) 
      (dss_one (ds_ret de_bl)) dss_nil) 
      (dss_one (ds_if (dt_cmp (op_eqD hr.units) od_eq (de_ix ix_seq od_ix (dv 4) de_int (fun _ _ => rfl)) (de_str) (nomark _)) 
      (dss_cons (ds_set 5 sc__law_agrees.nd (de_call (ok__law_written T) (hr.mono (by decide)) (by rfl) T.m__law_written T.k__law_written T.v__law_written pass0 (da_cons (dv 1) (da_cons (de_ix ix_seq od_ix (dv 4) de_int (fun _ _ => rfl)) da_nil)))) 
      (dss_one (ds_if (dw_pt (dw_and (dt_cmp op_leD od_le (de_ix ix_seq od_ix (dv 4) de_int (fun _ _ => rfl)) (de_B L2.call_len cd_len (by rfl) T.b_len (by decide +kernel) (da_cons (dv 5) da_nil)) (nomark _)) (dw_and1 (dt_cmp (op_neD hr.units) od_ne (de_ix ix_seq od_ix (dv 5) (de_op op_sub od_sub (de_ix ix_seq od_ix (dv 4) de_int (fun _ _ => rfl)) de_int) (fun _ _ => rfl)) (de_ix ix_seq od_ix (dv 4) de_int (fun _ _ => rfl)) (nomark _))))) 
      (dss_one (ds_ret de_bl)) dss_nil))) dss_nil)))) 
      (dss_one (ds_ret de_bl))))))
    (by intro ds μ Q h; unfold C__law_agrees at h; split at h <;> first | rfl | exact h.elim) (by
  intro ds μ Q h
  unfold C__law_agrees at h
  split at h
  · obtain ⟨sk, hs, ns, rfl, rfl, rfl, hb, ho, hq⟩ := h
    (walk_at "dl")
    refine ⟨hs, rfl, ?_⟩
    (walk_at "dl")
    refine ⟨ns, rfl, ?_⟩
    unfold eTab
    (walk_at "dl")
    simp only [List.length_map]
    unfold lawAgrees at hq
    by_cases h1 : lawHead ns = hs.length
    · have e1 : (lawHead ns == (hs.length : Int)) = true := by simp [h1]
      simp only [e1]
      (walk_at "dl")
      refine ⟨ns, rfl, ?_⟩
      cases h2 : clash ns with
      | true =>
        rw [if_pos (Or.inr h2)] at hq
        (walk_at "dl")
        exact hq
      | false =>
        rw [if_neg (by rintro (h | h); exact h h1; rw [h2] at h; cases h)] at hq
        (walk_at "dl")
        refine for_map ePc ns (fun pre ρ' μ' => (∃ a b, ρ' = [some (eKeys sk), some (eHist hs), some (eNews ns), some (eTab (hs.map keysOf)), a, b]) ∧ μ' = μ ∧ (pre.all fun p => holds sk (hs.map keysOf) p && valOk hs p) = true) (seq_l fun R h => ?_) ⟨⟨_, _, rfl⟩, rfl, rfl⟩ (fun pre p post ρ' μ' e hI => ?_) fun ρ' μ' hI => ?_
        · (walk_at "dl")
          exact h
        · obtain ⟨⟨a, b, rfl⟩, rfl, hc⟩ := hI
          have hp : p ∈ ns := by rw [e]; simp
          (walk_at "dl")
          refine ⟨sk, hs.map keysOf, p, rfl, rfl, rfl, by rw [List.length_map]; exact ho p hp, by rw [List.length_map]; exact Nat.le_trans hb.1 (by decide), ?_⟩
          have no : (holds sk (hs.map keysOf) p && valOk hs p) = false → (ns.all fun p => holds sk (hs.map keysOf) p && valOk hs p) = false := fun h => by
            rw [List.all_eq_false]
            exact ⟨p, hp, by rw [h]; simp⟩
          have yes : ∀ ρ2 : DL.Env, (∃ a b, ρ2 = [some (eKeys sk), some (eHist hs), some (eNews ns), some (eTab (hs.map keysOf)), a, b]) → (holds sk (hs.map keysOf) p && valOk hs p) = true → (∃ a b, ρ2 = [some (eKeys sk), some (eHist hs), some (eNews ns), some (eTab (hs.map keysOf)), a, b]) ∧ ((pre ++ [p]).all fun p => holds sk (hs.map keysOf) p && valOk hs p) = true := fun ρ2 e h => ⟨e, by rw [List.all_append, hc]; simp [h]⟩
          cases h3 : holds sk (hs.map keysOf) p with
          | false =>
            (walk_at "dl")
            rw [no (by rw [h3, Bool.false_and])] at hq
            exact hq
          | true =>
            rw [h3, Bool.true_and] at no yes
            cases p
            case value k n x =>
              have hn : 1 ≤ n := ho _ hp
              unfold ePc
              (walk_at "dl")
              refine ⟨hs, rfl, hb, ?_⟩
              (walk_at "dl")
              simp only [List.length_map]
              have hv : valOk hs (.value k n x) = !(decide (n ≤ (written hs k).length) && decide ((written hs k).getD (n - 1).toNat 0 ≠ x)) := rfl
              by_cases h4 : n ≤ (written hs k).length
              · simp only [h4, if_true, decide_true]
                rw [atI_map, atG 0 (by omega) (by omega)]
                refine ⟨_, rfl, p_i, ?_⟩
                rw [q_ii]
                by_cases h5 : (written hs k).getD (n - 1).toNat 0 = x
                · rw [h5, if_neg (by simp)]
                  exact yes _ ⟨_, _, rfl⟩ (by rw [hv, h5]; simp)
                · rw [if_pos (by simpa using h5)]
                  rw [no (by rw [hv, decide_eq_true h4, decide_eq_true h5]; rfl)] at hq
                  exact hq
              · simp only [h4, if_false, decide_false, Bool.false_eq_true]
                exact yes _ ⟨_, _, rfl⟩ (by rw [hv, decide_eq_false h4]; rfl)
            all_goals
              unfold ePc
              (walk_at "dl")
              exact yes _ ⟨_, _, rfl⟩ rfl
        · obtain ⟨⟨a, b, rfl⟩, rfl, hc⟩ := hI
          (walk_at "dl")
          rw [hc] at hq
          exact hq
    · rw [if_pos (Or.inl h1)] at hq
      have e1 : (lawHead ns == (hs.length : Int)) = false := by simp [h1]
      simp only [e1]
      (walk_at "dl")
      exact hq
  · exact h.elim
)

theorem ok__law_true (T : Tx K mg) : FnOk P w K mg base CX0 3 T.a__law_true T.d__law_true ["draw", "shelf", "history"] (spD K C__law_true) :=
  DL.Fun.okD (N := ["draw", "shelf", "history", "piece", "written"]) T.F__law_true sc__law_true (fun cdv A outer s H E hr => 
      (dss_cons (ds_set 3 sc__law_true.nd (de_call (ok__law_told T) (hr.mono (by decide)) (by rfl) T.m__law_told T.k__law_told T.v__law_told pass0 (da_cons (dv 0) (da_cons (dv 1) (da_cons (de_call (ok__law_keys T) (hr.mono (by decide)) (by rfl) T.m__law_keys T.k__law_keys T.v__law_keys pass0 (da_cons (dv 2) da_nil)) (da_cons (de_B L2.call_len cd_len (by rfl) T.b_len (by decide +kernel) (da_cons (dv 2) da_nil)) da_nil)))))) 
      (dss_cons (ds_if (dw_pt (dw_and (dt_cmp (op_eqD hr.units) od_eq (de_ix ix_seq od_ix (dv 3) de_int (fun _ _ => rfl)) (de_str) (nomark _)) (dw_and1 (dt_tru (de_call (ok__law_next T) (hr.mono (by decide)) (by rfl) T.m__law_next T.k__law_next T.v__law_next pass0 (da_cons (dv 0) (da_cons de_int da_nil))))))) 
      (dss_cons (ds_set 4 sc__law_true.nd (de_call (ok__law_written T) (hr.mono (by decide)) (by rfl) T.m__law_written T.k__law_written T.v__law_written pass0 (da_cons (dv 2) (da_cons (de_ix ix_seq od_ix (dv 3) de_int (fun _ _ => rfl)) da_nil)))) 
      (dss_one (ds_if (dt_cmp op_leD od_le (de_ix ix_seq od_ix (dv 3) de_int (fun _ _ => rfl)) (de_B L2.call_len cd_len (by rfl) T.b_len (by decide +kernel) (da_cons (dv 4) da_nil)) (nomark _)) 
      (dss_one (ds_ret (de_tup (da_cons (de_str) (da_cons (de_ix ix_seq od_ix (dv 3) de_int (fun _ _ => rfl)) (da_cons (de_ix ix_seq od_ix (dv 3) de_int (fun _ _ => rfl)) (da_cons (de_ix ix_seq od_ix (dv 4) (de_op op_sub od_sub (de_ix ix_seq od_ix (dv 3) de_int (fun _ _ => rfl)) de_int) (fun _ _ => rfl)) da_nil))))))) dss_nil))) dss_nil) 
      (dss_one (ds_ret (dv 3))))))
    (by intro ds μ Q h; unfold C__law_true at h; split at h <;> first | rfl | exact h.elim) (by
  intro ds μ Q h
  unfold C__law_true at h
  split at h
  · rename_i ds' dr s hh
    obtain ⟨hd, sk, hsk, hs, rfl, rfl, ho, l1, l4, hq⟩ := h
    have hb : bdH hs := ⟨Nat.le_trans l4 (by decide), fun c hc => by
      have h1 := (ho c hc).2.length_le
      have h2 := shelf3 sk hsk
      unfold keysOf at h1
      rw [List.length_map] at h1
      omega⟩
    (walk_at "dl")
    refine ⟨hs, rfl, ?_⟩
    unfold eHist
    (walk_at "dl")
    rw [List.length_map]
    refine ⟨hd, sk, hsk, hs.map keysOf, rfl, rfl, by simp, by omega, by omega, ?_, fun q oq => ?_⟩
    · intro c hc
      obtain ⟨c', hc', rfl⟩ := List.mem_map.mp hc
      obtain ⟨n1, n2⟩ := ho c' hc'
      refine ⟨fun h => n1 (by unfold keysOf at h; simpa using h), Nat.le_trans n2.length_le (shelf3 sk hsk)⟩
    · cases q
      case value k n x =>
        have hn : 1 ≤ n := oq
        unfold ePc
        (walk_at "dl")
        refine ⟨hd, by decide, by decide, fun y y0 y1 => ?_⟩
        (walk_at "dl")
        by_cases hy : y = 0
        · rw [if_neg (by simp [hy])]
          exact hq _ oq
        · rw [if_pos (by simp [hy])]
          refine ⟨hs, rfl, hb, ?_⟩
          (walk_at "dl")
          simp only [List.length_map]
          by_cases h4 : n ≤ (written hs k).length
          · simp only [h4, if_true, decide_true]
            rw [atI_map, atG 0 (by omega) (by omega)]
            exact ⟨_, rfl, hq (.value k n _) oq⟩
          · simp only [h4, if_false, decide_false, Bool.false_eq_true]
            exact hq _ oq
      all_goals
        unfold ePc
        (walk_at "dl")
        exact hq _ oq
  · exact h.elim
)

end
end K43
end

-- part K43M
section
namespace K43
open PySem L2 DL
theorem foldl_max_le : ∀ (l : List Int) (a : Int), a ≤ l.foldl max a ∧ ∀ x ∈ l, x ≤ l.foldl max a
  | [], a => ⟨Int.le_refl _, by simp⟩
  | b :: l, a => by
    obtain ⟨h1, h2⟩ := foldl_max_le l (max a b)
    refine ⟨by rw [List.foldl_cons]; omega, fun x hx => ?_⟩
    rw [List.foldl_cons]
    rcases List.mem_cons.mp hx with e | hx
    · subst e; omega
    · exact h2 x hx
theorem head_step : ∀ (ns : List Pc) (a : Int), ns.foldl stepHead a = (ns.filterMap verOf).foldl max a
  | [], a => rfl
  | p :: ns, a => by
    rw [List.foldl_cons, head_step ns]
    unfold stepHead
    cases h : verOf p with
    | none => rw [List.filterMap_cons_none h]
    | some v =>
      rw [List.filterMap_cons_some h, List.foldl_cons]
      congr 1
      unfold maxI
      simp only
      split <;> omega
theorem ver_nn {m : Int} {q : Pc} (h : okV m q) {v : Int} (e : verOf q = some v) : 0 ≤ v ∧ v ≤ m := by
  cases q <;> simp only [verOf, Option.some.injEq, reduceCtorEq] at e <;> subst e <;> exact ⟨by have := h.1; omega, h.2⟩
theorem head_eq {m : Int} {ns : List Pc} (h : ∀ q ∈ ns, okV m q) : headOf ns = lawHead ns := by
  unfold headOf lawHead
  rw [head_step]
  have hv : ∀ v ∈ ns.filterMap verOf, 0 ≤ v := fun v hv => by
    obtain ⟨q, hq, e⟩ := List.mem_filterMap.mp hv
    exact (ver_nn (h q hq) e).1
  generalize ns.filterMap verOf = l at hv
  cases l with
  | nil => rfl
  | cons a l =>
    show l.foldl max a = l.foldl max (max 0 a)
    rw [Int.max_eq_right (hv a (by simp))]
theorem sub_sorted {c sk : List Str} (h : c.Sublist sk) (hs : SortedS sk) : SortedS c := List.Pairwise.sublist h hs
instance (sk : List Str) : Decidable (SortedS sk) := by unfold SortedS; infer_instance
theorem shelf_sorted : ∀ sk ∈ shelves, SortedS sk := by decide +kernel
theorem okH_com {sk : List Str} (hsk : sk ∈ shelves) {hs : List Com} (ho : okH sk hs) : ∀ c ∈ hs, isCom sk c := fun c hc => by
  obtain ⟨h1, h2⟩ := ho c hc
  exact ⟨h1, sub_sorted h2 (shelf_sorted sk hsk), fun k hk => h2.subset hk⟩
theorem getD_map (hs : List Com) (i : Nat) : (hs.map keysOf).getD i [] = keysOf (hs.getD i []) := by
  rw [List.getD_eq_getElem?_getD, List.getD_eq_getElem?_getD, List.getElem?_map]
  cases hs[i]? <;> rfl
theorem getD_ok {sk : List Str} {hs : List Com} (ho : okH sk hs) {i : Nat} : ∀ k ∈ keysOf (hs.getD i []), k ∈ sk := by
  rw [List.getD_eq_getElem?_getD]
  cases h : hs[i]? with
  | none => intro k hk; cases hk
  | some c => exact fun k hk => (ho c (List.mem_of_getElem? h)).2.subset hk
theorem one_key {c : Com} (h : SortedS (keysOf c)) (k : Str) : ((c.filter fun p => decide (p.1 = k)).map (·.2)).length = if k ∈ keysOf c then 1 else 0 := by
  rw [List.length_map]
  induction c with
  | nil => rfl
  | cons p c ih =>
    have h' : SortedS (p.1 :: keysOf c) := h
    obtain ⟨h1, h2⟩ := List.pairwise_cons.mp h'
    have ih := ih h2
    show _ = if k ∈ p.1 :: keysOf c then 1 else 0
    by_cases e : p.1 = k
    · subst e
      have hn : p.1 ∉ keysOf c := fun hk => lt_irr _ (h1 _ hk)
      rw [if_neg hn] at ih
      rw [List.filter_cons_of_pos (by simp), List.length_cons, ih, if_pos (by simp)]
    · rw [List.filter_cons_of_neg (by simpa using e), ih]
      by_cases hk : k ∈ keysOf c
      · rw [if_pos hk, if_pos (by simp [hk])]
      · rw [if_neg hk, if_neg (by simp [hk, Ne.symm e])]
theorem count_written {sk : List Str} (hsk : SortedS sk) : ∀ {hs : List Com}, okH sk hs → ∀ (k : Str), (written hs k).length = ((hs.map keysOf).filter fun c => decide (k ∈ c)).length
  | [], _, k => rfl
  | c :: hs, ho, k => by
    have ih := count_written hsk (hs := hs) (fun c hc => ho c (by simp [hc])) k
    have h1 := one_key (sub_sorted (ho c (by simp)).2 hsk) k
    unfold written at ih ⊢
    rw [List.flatMap_cons, List.length_append, ih, h1, List.map_cons]
    by_cases hk : k ∈ keysOf c
    · rw [if_pos hk, List.filter_cons_of_pos (by simpa using hk), List.length_cons]; omega
    · rw [if_neg hk, List.filter_cons_of_neg (by simpa using hk)]; omega
theorem kw (hs : List Com) {v : Int} (h : 1 ≤ v) : keysW hs v = keysOf (hs.getD (v - 1).toNat []) := by unfold keysW; rw [if_neg (by omega)]
theorem true_eq {sk : List Str} (hsk : sk ∈ shelves) {hs : List Com} (ho : okH sk hs) {q : Pc} (hq : okV hs.length q) : isTrueS sk hs q = (holds sk (hs.map keysOf) q && valOk hs q) := by
  have sub : ∀ {ks : List Str} {i : Nat}, keysOf (hs.getD i []) = ks → (ks.all fun k => decide (k ∈ sk)) = true := fun {ks i} e => by
    rw [List.all_eq_true]; intro k hk; rw [← e] at hk; simpa using getD_ok ho k hk
  cases q with
  | wrote v ks =>
    have h1 := hq.1
    simp only [isTrueS, isTrueP, holds, valOk, shelfKeys, kw hs h1, getD_map, Bool.and_true]
    by_cases e : keysOf (hs.getD (v - 1).toNat []) = ks
    · rw [sub e]; rfl
    · rw [decide_eq_false e, Bool.and_false]
  | many v n =>
    have h1 := hq.1
    simp only [isTrueS, isTrueP, holds, valOk, shelfKeys, kw hs h1, getD_map, Bool.and_true, List.all_nil, Bool.true_and]
  | among v ks =>
    have h1 := hq.1
    simp only [isTrueS, isTrueP, holds, valOk, shelfKeys, kw hs h1, getD_map, Bool.and_true]
  | did v k =>
    have h1 := hq.1
    simp only [isTrueS, isTrueP, holds, valOk, shelfKeys, kw hs h1, getD_map, Bool.and_true, List.all_cons, List.all_nil]
    by_cases e : k ∈ keysOf (hs.getD (v - 1).toNat [])
    · rw [decide_eq_true (getD_ok ho k e)]; rfl
    · rw [decide_eq_false e, Bool.and_false]
  | times k v n =>
    simp only [isTrueS, isTrueP, holds, valOk, shelfKeys, Bool.and_true, List.all_cons, List.all_nil, countK]
    rw [count_written (shelf_sorted sk hsk) (fun c hc => ho c (List.mem_of_mem_take hc)), List.map_take]
    rfl
  | value k n x =>
    have h1 : 1 ≤ n := hq
    simp only [isTrueS, isTrueP, holds, valOk, shelfKeys, valTrue, List.all_nil, Bool.true_and]
    have h2 : ¬ n < 1 := by omega
    by_cases h3 : n ≤ (written hs k).length
    · have h4 : ¬ n > (written hs k).length := by omega
      simp [h2, h3, h4]
    · have h4 : n > (written hs k).length := by omega
      simp [h2, h3, h4]
  | head v =>
    simp only [isTrueS, isTrueP, holds, valOk, shelfKeys, List.all_nil, Bool.true_and]
    exact decide_eq_true hq.2
theorem agree_eq {sk : List Str} (hsk : sk ∈ shelves) {hs : List Com} (ho : okH sk hs) {ns : List Pc} (hn : ∀ q ∈ ns, okV hs.length q) {b : Bool} (h : b = true ↔ (∀ c ∈ hs, isCom sk c) ∧ headOf ns = hs.length ∧ clash ns = false ∧ ∀ q ∈ ns, isTrueS sk hs q = true) : b = lawAgrees sk hs ns := by
  rw [Bool.eq_iff_iff, h, head_eq hn]
  unfold lawAgrees
  by_cases h1 : lawHead ns ≠ hs.length ∨ clash ns = true
  · rw [if_pos h1]
    simp only [Bool.false_eq_true, iff_false]
    rintro ⟨_, h2, h3, _⟩
    rcases h1 with h1 | h1
    · exact h1 h2
    · rw [h3] at h1; cases h1
  · rw [if_neg h1]
    have h2 : lawHead ns = hs.length := Classical.byContradiction fun h => h1 (Or.inl h)
    have h3 : clash ns = false := by cases h : clash ns with | false => rfl | true => exact absurd (Or.inr h) h1
    rw [List.all_eq_true]
    constructor
    · rintro ⟨_, _, _, h4⟩ q hq
      rw [← true_eq hsk ho (hn q hq)]
      exact h4 q hq
    · intro h4
      exact ⟨okH_com hsk ho, h2, h3, fun q hq => by rw [true_eq hsk ho (hn q hq)]; exact h4 q hq⟩
/-! ### the four wrong commits -/
def wrongs (c : Com) : List Com := [[], c ++ c.take 1, c.reverse ++ [(("a" : Str), 1)], c ++ [(("zz" : Str), 1)]]
theorem low_a : ∀ sk ∈ shelves, ∀ k ∈ sk, ¬ k.cps.toList < ("a" : Str).cps.toList := by decide +kernel
theorem no_zz : ∀ sk ∈ shelves, ("zz" : Str) ∉ sk := by decide +kernel
theorem wrong_com {sk : List Str} (hsk : sk ∈ shelves) {c : Com} (h0 : c ≠ []) (hc : (keysOf c).Sublist sk) : ∀ x ∈ wrongs c, ¬ isCom sk x := by
  intro x hx
  unfold wrongs at hx
  simp only [List.mem_cons, List.not_mem_nil, or_false] at hx
  rcases hx with rfl | rfl | rfl | rfl
  · exact fun h => h.1 rfl
  · rintro ⟨_, h, _⟩
    cases c with
    | nil => exact h0 rfl
    | cons p c =>
      have h' : SortedS (p.1 :: (keysOf c ++ [p.1])) := by simpa [keysOf] using h
      exact lt_irr _ ((List.pairwise_cons.mp h').1 p.1 (by simp))
  · rintro ⟨_, h, _⟩
    cases c with
    | nil => exact h0 rfl
    | cons p c =>
      have h' : SortedS ((keysOf (p :: c)).reverse ++ [("a" : Str)]) := by simpa [keysOf] using h
      have h2 := (List.pairwise_append.mp h').2.2 p.1 (by simp [keysOf]) ("a" : Str) (by simp)
      exact low_a sk hsk p.1 (hc.subset (by simp [keysOf])) h2
  · rintro ⟨_, _, h⟩
    exact no_zz sk hsk (h "zz" (by simp [keysOf]))
theorem value_last {hs : List Com} {v : Nat} (k : Str) : (written (hs.take v) k).getLastD 0 = if (written (hs.take v) k).length = 0 then 0 else (written hs k).getD ((written (hs.take v) k).length - 1) 0 := by
  have e : written hs k = written (hs.take v) k ++ written (hs.drop v) k := by
    unfold written; rw [← List.flatMap_append, List.take_append_drop]
  rw [e]
  generalize written (hs.take v) k = l
  by_cases h : l.length = 0
  · rw [if_pos h, List.length_eq_zero_iff.mp h]; rfl
  · rw [if_neg h, List.getD_eq_getElem?_getD, List.getElem?_append_left (by omega), List.getLastD_eq_getLast?, List.getLast?_eq_getElem?]
end K43
end

-- part DL10
section
namespace DL
open PySem L2
variable {ρ : DL.Env} {μ : Mu} {E : EndsD}
theorem step_set {i : Nat} {F : TF D} {REST : TSD} (S : D → Mu → Prop) (hF : ∀ R : D → Mu → Prop, (∀ d μ', S d μ' → R d μ') → F ρ μ R) (h : ∀ d μ', S d μ' → REST E (ρ.set i (some d)) μ') : sSeq (sSet i F) REST E ρ μ := hF _ h
theorem step {a REST : TSD} (S : DL.Env → Mu → Prop) (ha : ∀ E' : EndsD, (∀ ρ' μ', S ρ' μ' → E'.nx ρ' μ') → a E' ρ μ) (h : ∀ ρ' μ', S ρ' μ' → REST E ρ' μ') : sSeq a REST E ρ μ := ha _ h
theorem step_for {α : Type} {F : TF (List D)} {g : TGD} {body REST : TSD} (f : α → D) (l : List α) (I : List α → DL.Env → Mu → Prop) (hF : ∀ R : List D → Mu → Prop, R (l.map f) μ → F ρ μ R) (h0 : I [] ρ μ)
    (ht : ∀ (pre : List α) (a : α) (post : List α) ρ' μ', l = pre ++ a :: post → I pre ρ' μ' → ∀ E' : EndsD, E'.rt = E.rt → (∀ ρ3 μ3, I (pre ++ [a]) ρ3 μ3 → E'.nx ρ3 μ3) → g (f a) ρ' fun ρ2 => body E' ρ2 μ') (hd : ∀ ρ' μ', I l ρ' μ' → REST E ρ' μ') : sSeq (sFor F g body) REST E ρ μ :=
  for_map (E := { E with nx := REST E }) f l I hF h0 (fun pre a post ρ' μ' e hI => ht pre a post ρ' μ' e hI _ rfl fun _ _ h => h) hd
theorem last_for {α : Type} {F : TF (List D)} {g : TGD} {body : TSD} (f : α → D) (l : List α) (I : List α → DL.Env → Mu → Prop) (hF : ∀ R : List D → Mu → Prop, R (l.map f) μ → F ρ μ R) (h0 : I [] ρ μ)
    (ht : ∀ (pre : List α) (a : α) (post : List α) ρ' μ', l = pre ++ a :: post → I pre ρ' μ' → ∀ E' : EndsD, E'.rt = E.rt → (∀ ρ3 μ3, I (pre ++ [a]) ρ3 μ3 → E'.nx ρ3 μ3) → g (f a) ρ' fun ρ2 => body E' ρ2 μ') (hd : ∀ ρ' μ', I l ρ' μ' → E.nx ρ' μ') : sFor F g body E ρ μ :=
  for_map f l I hF h0 (fun pre a post ρ' μ' e hI => ht pre a post ρ' μ' e hI _ rfl fun _ _ h => h) hd
theorem step_forQ {α : Type} {F : TF (List D)} {g : TGD} {body REST : TSD} (f : α → D) (G : List α → Prop) (I : List α → DL.Env → Mu → Prop) (hF : ∀ R : List D → Mu → Prop, (∀ l, G l → R (l.map f) μ) → F ρ μ R) (h0 : I [] ρ μ)
    (ht : ∀ (l pre : List α) (a : α) (post : List α) ρ' μ', G l → l = pre ++ a :: post → I pre ρ' μ' → ∀ E' : EndsD, E'.rt = E.rt → (∀ ρ3 μ3, I (pre ++ [a]) ρ3 μ3 → E'.nx ρ3 μ3) → g (f a) ρ' fun ρ2 => body E' ρ2 μ') (hd : ∀ l ρ' μ', G l → I l ρ' μ' → REST E ρ' μ') : sSeq (sFor F g body) REST E ρ μ :=
  hF _ fun l hl => step_for (F := fun _ μ R => R (l.map f) μ) f l I (fun R h => h) h0 (fun pre a post ρ' μ' e hI => ht l pre a post ρ' μ' hl e hI) fun ρ' μ' hI => hd l ρ' μ' hl hI
end DL
end

-- part P10
section
local macro_rules | `(tactic| walk_at "dl") => `(tactic| simp only [DL.sRet, DL.sSeq, DL.sSet, DL.sIf, DL.sNext, DL.sNever, DL.sDrop, DL.sAsg, DL.sRetN, DL.dVar, DL.dC, DL.dOp, DL.dTest, DL.dAnd, DL.dOr, DL.dNot, DL.dTru, DL.dAndV, DL.dOrV, DL.dNotV, DL.dIf, DL.aNil, DL.aCons, DL.dTup, DL.dLst, DL.dLstM, DL.dCall, DL.dFrz, DL.dB, DL.dNeg, DL.dSl, DL.oNone, DL.oSome, DL.dChn, DL.gN, DL.gT, DL.setAll,
  DL.ix_l, DL.ix_t, DL.ix_s, DL.ix_p, DL.add_i, DL.add_s, DL.add_l, DL.add_t, DL.mul_i, DL.mul_b, DL.sub_i, DL.fdiv_i, DL.mod_i, DL.pow_i, DL.shl_i, DL.shr_i, DL.and_i, DL.lt_i, DL.le_i, DL.gt_i, DL.ge_i, DL.le_s, DL.in_t, DL.in_l, DL.in_s, DL.len_l, DL.len_t, DL.len_s, DL.len_p, DL.list_l, DL.list_t, DL.list_s, DL.list_p, DL.tuple_l, DL.tuple_t, DL.int_i, DL.int_b, DL.abs_i, DL.max_i, DL.min_i, DL.all_l, DL.any_l, DL.isi_1, DL.isi_n, DL.sl_l, DL.sl_t, DL.sl_s, DL.neg_i, DL.isN_i, DL.notN_i, DL.eq_x, DL.ne_x,
  DL.w_wrote_many, DL.w_wrote_many_b, DL.w_wrote_among, DL.w_wrote_among_b, DL.w_wrote_did, DL.w_wrote_did_b, DL.w_wrote_times, DL.w_wrote_times_b, DL.w_wrote_value, DL.w_wrote_value_b, DL.w_wrote_head, DL.w_wrote_head_b, DL.w_many_wrote, DL.w_many_wrote_b, DL.w_many_among, DL.w_many_among_b, DL.w_many_did, DL.w_many_did_b, DL.w_many_times, DL.w_many_times_b, DL.w_many_value, DL.w_many_value_b, DL.w_many_head, DL.w_many_head_b, DL.w_among_wrote, DL.w_among_wrote_b, DL.w_among_many, DL.w_among_many_b, DL.w_among_did, DL.w_among_did_b, DL.w_among_times, DL.w_among_times_b, DL.w_among_value, DL.w_among_value_b, DL.w_among_head, DL.w_among_head_b, DL.w_did_wrote, DL.w_did_wrote_b, DL.w_did_many, DL.w_did_many_b, DL.w_did_among, DL.w_did_among_b, DL.w_did_times, DL.w_did_times_b, DL.w_did_value, DL.w_did_value_b, DL.w_did_head, DL.w_did_head_b, DL.w_times_wrote, DL.w_times_wrote_b, DL.w_times_many, DL.w_times_many_b, DL.w_times_among, DL.w_times_among_b, DL.w_times_did, DL.w_times_did_b, DL.w_times_value, DL.w_times_value_b, DL.w_times_head, DL.w_times_head_b, DL.w_value_wrote, DL.w_value_wrote_b, DL.w_value_many, DL.w_value_many_b, DL.w_value_among, DL.w_value_among_b, DL.w_value_did, DL.w_value_did_b, DL.w_value_times, DL.w_value_times_b, DL.w_value_head, DL.w_value_head_b, DL.w_head_wrote, DL.w_head_wrote_b, DL.w_head_many, DL.w_head_many_b, DL.w_head_among, DL.w_head_among_b, DL.w_head_did, DL.w_head_did_b, DL.w_head_times, DL.w_head_times_b, DL.w_head_value, DL.w_head_value_b,
  DL.q_ss, DL.q_ii, DL.q_bb, DL.q_nn, DL.q_tt, DL.q_ll, DL.q_si, DL.q_sn, DL.q_st, DL.q_sl, DL.q_is, DL.q_in, DL.q_it, DL.q_il, DL.q_ns, DL.q_ni, DL.q_nt, DL.q_nl, DL.q_ts, DL.q_ti, DL.q_tn, DL.q_tl, DL.q_ls, DL.q_li, DL.q_ln, DL.q_lt, DL.qs_nil, DL.qs_cons, DL.qs_nc, DL.qs_cn, DL.p_t16, DL.p_l16, DL.p_t15, DL.p_l15, DL.p_t14, DL.p_l14, DL.p_t13, DL.p_l13, DL.p_t12, DL.p_l12, DL.p_s, DL.p_i, DL.p_b, DL.p_n, DL.ps_nil, DL.ps_cons, DL.t_b, DL.t_i, DL.t_l, DL.t_t, DL.t_n, DL.n_n, DL.n_i, DL.n_s, DL.n_t, DL.n_l, DL.n_b, DL.f_s, DL.f_i,
  Bool.false_and, Bool.and_false, DL.z0, DL.z1, DL.z2, DL.z3, DL.z4, DL.z5, DL.z6, DL.z12,
  DL.startD, DL.sFrz, DL.sApp, DL.yesD, DL.lcTurn, DL.wipeE, DL.at0, DL.at1, DL.at2, DL.at3, DL.at4, List.map_cons, List.map_nil, List.replicate_succ, List.replicate_zero, List.length_cons, List.length_nil, List.cons_append, List.nil_append, List.set_cons_zero, List.set_cons_succ, List.getElem?_cons_zero, List.getElem?_cons_succ, Option.some.injEq, exists_eq_left, exists_eq_left', exists_eq', exists_eq, true_and, and_true, decide_eq_true_eq, if_true, if_false, Bool.false_eq_true, reduceIte, Nat.reduceAdd, Nat.reduceSub, DL.D.bl.injEq, DL.D.int.injEq, DL.D.str.injEq, DL.D.tup.injEq, DL.D.lst.injEq, DL.D.ptr.injEq, Bool.not_true, Bool.not_false, beq_self_eq_true, List.all_cons, List.all_nil, List.any_cons, List.any_nil, Bool.and_true, Bool.true_and, Bool.or_false, Bool.false_or, Bool.or_true, Bool.true_or, Bool.false_xor, Bool.true_xor, beq_iff_eq, Bool.not_eq_true, Int.reduceEq, Int.reduceBEq, and_self])

namespace K43
open PySem L2 DL
theorem wrong_len {c x : Com} (hx : x ∈ wrongs c) (h : c.length < 62) : x.length < 64 := by
  unfold wrongs at hx
  simp only [List.mem_cons, List.not_mem_nil, or_false] at hx
  rcases hx with rfl | rfl | rfl | rfl
  · decide
  · rw [List.length_append, List.length_take]; omega
  · rw [List.length_append, List.length_reverse, List.length_singleton]; omega
  · rw [List.length_append, List.length_singleton]; omega
section
variable {P : Program} {w : World} {K : PySem.W.Frag} {mg : Str → Option Value} {base : Heap}
theorem ok_law (T : Tx K mg) : FnOk P w K mg base CX0 13 T.a_law T.d_law ["script"] (spD K C_law) :=
  DL.Fun.okD (N := ["script", "draw", "turn", "shelf", "history", "key", "written", "version", "times", "news", "k", "piece", "at", "commit", "wrong"]) T.F_law sc_law (fun cdv A outer s H E hr => 
      (dss_cons (ds_set 1 sc_law.nd (de_call (ok__law_draw T) (hr.mono (by decide)) (by rfl) T.m__law_draw T.k__law_draw T.v__law_draw pass0 (da_cons (dv 0) da_nil))) 
      (dss_cons (ds_for PassesOwn.never rfl (di_rg1 (by rfl) T.b_range (da_cons de_int da_nil)) (dg_name 2 sc_law.nd) 
      (dss_cons (ds_set 3 sc_law.nd (de_call (ok__law_shelf T) (hr.mono (by decide)) (by rfl) T.m__law_shelf T.k__law_shelf T.v__law_shelf pass0 (da_cons (dv 1) da_nil))) 
      (dss_cons (ds_set 4 sc_law.nd (de_call (ok__law_history T) (hr.mono (by decide)) (by rfl) T.m__law_history T.k__law_history T.v__law_history pass0 (da_cons (dv 1) (da_cons (dv 3) (da_cons (de_op op_addD od_add de_int (de_call (ok__law_next T) (hr.mono (by decide)) (by rfl) T.m__law_next T.k__law_next T.v__law_next pass0 (da_cons (dv 1) (da_cons de_int da_nil)))) da_nil))))) 
      (dss_cons (ds_for PassesOwn.never rfl (di_seq (dv 3)) (dg_name 5 sc_law.nd) 
      (dss_cons (ds_set 6 sc_law.nd (de_call (ok__law_written T) (hr.mono (by decide)) (by rfl) T.m__law_written T.k__law_written T.v__law_written pass0 (da_cons (dv 4) (da_cons (dv 5) da_nil)))) 
      (dss_one (ds_for PassesOwn.never rfl (di_rg1 (by rfl) T.b_range (da_cons (de_op op_addD od_add (de_B L2.call_len cd_len (by rfl) T.b_len (by decide +kernel) (da_cons (dv 4) da_nil)) de_int) da_nil)) (dg_name 7 sc_law.nd) 
      (dss_cons (ds_set 8 sc_law.nd (de_B L2.call_len cd_len (by rfl) T.b_len (by decide +kernel) (da_cons (de_call (ok__law_written T) (hr.mono (by decide)) (by rfl) T.m__law_written T.k__law_written T.v__law_written pass0 (da_cons (de_sl (dv 4) do_none (do_some (dv 7))) (da_cons (dv 5) da_nil))) da_nil))) 
      (dss_cons (ds_if (dt_not (dt_tru (de_call (ok__law_same T) (hr.mono (by decide)) (by rfl) T.m__law_same T.k__law_same T.v__law_same pass0 (da_cons (de_call (ok_times_in T) (hr.mono (by decide)) (by rfl) T.m_times_in T.k_times_in T.v_times_in pass0 (da_cons (dv 4) (da_cons (dv 5) (da_cons (dv 7) da_nil)))) (da_cons (dv 8) da_nil))))) 
      (dss_one (ds_ret de_bl)) dss_nil) 
      (dss_one (ds_if (dt_not (dt_tru (de_call (ok__law_same T) (hr.mono (by decide)) (by rfl) T.m__law_same T.k__law_same T.v__law_same pass0 (da_cons (de_call (ok_value_in T) (hr.mono (by decide)) (by rfl) T.m_value_in T.k_value_in T.v_value_in pass0 (da_cons (dv 4) (da_cons (dv 5) (da_cons (dv 7) da_nil)))) (da_cons (de_if (dt_tru (dv 8)) (de_ix ix_seq od_ix (dv 6) (de_op op_sub od_sub (dv 8) de_int) (fun _ _ => rfl)) de_int) da_nil))))) 
      (dss_one (ds_ret de_bl)) dss_nil)))))))) 
      (dss_cons (ds_set 9 sc_law.nd (de_if (dt_tru (de_call (ok__law_next T) (hr.mono (by decide)) (by rfl) T.m__law_next T.k__law_next T.v__law_next pass0 (da_cons (dv 1) (da_cons de_int da_nil)))) (de_lstM (da_cons (de_tup (da_cons (de_str) (da_cons (de_B L2.call_len cd_len (by rfl) T.b_len (by decide +kernel) (da_cons (dv 4) da_nil)) da_nil))) da_nil)) (de_lstM da_nil))) 
      (dss_cons (ds_for PassesOwn.never rfl (di_rg1 (by rfl) T.b_range (da_cons (de_call (ok__law_next T) (hr.mono (by decide)) (by rfl) T.m__law_next T.k__law_next T.v__law_next pass0 (da_cons (dv 1) (da_cons de_int da_nil))) da_nil)) (dg_name 10 sc_law.nd) 
      (dss_cons (ds_set 11 sc_law.nd (de_call (ok__law_true T) (hr.mono (by decide)) (by rfl) T.m__law_true T.k__law_true T.v__law_true pass0 (da_cons (dv 1) (da_cons (dv 3) (da_cons (dv 4) da_nil))))) 
      (dss_one (ds_app (dv 9) (de_if (dt_cmp (op_eqD hr.units) od_eq (de_call (ok__law_next T) (hr.mono (by decide)) (by rfl) T.m__law_next T.k__law_next T.v__law_next pass0 (da_cons (dv 1) (da_cons de_int da_nil))) de_int (nomark _)) (de_call (ok__law_bent T) (hr.mono (by decide)) (by rfl) T.m__law_bent T.k__law_bent T.v__law_bent pass0 (da_cons (dv 1) (da_cons (dv 3) (da_cons (dv 11) da_nil)))) (dv 11)))))) 
      (dss_cons (ds_if (dt_cmp (op_eqD hr.units) od_eq (de_call (ok__law_next T) (hr.mono (by decide)) (by rfl) T.m__law_next T.k__law_next T.v__law_next pass0 (da_cons (dv 1) (da_cons de_int da_nil))) de_int (nomark _)) 
      (dss_one (ds_app (dv 9) (de_ix ix_seq od_ix (de_lst (da_cons (de_tup (da_cons (de_str) (da_cons (de_str) (da_cons de_int (da_cons de_int da_nil))))) (da_cons (de_tup (da_cons (de_str) (da_cons (de_str) (da_cons de_int (da_cons de_int da_nil))))) da_nil))) (de_call (ok__law_next T) (hr.mono (by decide)) (by rfl) T.m__law_next T.k__law_next T.v__law_next pass0 (da_cons (dv 1) (da_cons de_int da_nil))) (fun _ _ => rfl)))) dss_nil) 
      (dss_frz 9 (dss_cons (ds_if (dt_not (dt_tru (de_call (ok__law_same T) (hr.mono (by decide)) (by rfl) T.m__law_same T.k__law_same T.v__law_same pass0 (da_cons (de_call (ok_head_of T) (hr.mono (by decide)) (by rfl) T.m_head_of T.k_head_of T.v_head_of pass0 (da_cons (de_T call_list_of cd_list (by rfl) T.b_list (by decide +kernel) (da_cons (dv 9) da_nil)) da_nil)) (da_cons (de_call (ok__law_head T) (hr.mono (by decide)) (by rfl) T.m__law_head T.k__law_head T.v__law_head pass0 (da_cons (dv 9) da_nil)) da_nil))))) 
      (dss_one (ds_ret de_bl)) dss_nil) 
      (dss_cons (ds_if (dt_not (dt_tru (de_call (ok__law_same T) (hr.mono (by decide)) (by rfl) T.m__law_same T.k__law_same T.v__law_same pass0 (da_cons (de_call (ok_agrees T) (hr.mono (by decide)) (by rfl) T.m_agrees T.k_agrees T.v_agrees pass0 (da_cons (dv 3) (da_cons (de_T call_list_of cd_list (by rfl) T.b_list (by decide +kernel) (da_cons (dv 4) da_nil)) (da_cons (de_T call_list_of cd_list (by rfl) T.b_list (by decide +kernel) (da_cons (dv 9) da_nil)) da_nil)))) (da_cons (de_call (ok__law_agrees T) (hr.mono (by decide)) (by rfl) T.m__law_agrees T.k__law_agrees T.v__law_agrees pass0 (da_cons (dv 3) (da_cons (dv 4) (da_cons (dv 9) da_nil)))) da_nil))))) 
      (dss_one (ds_ret de_bl)) dss_nil) 
      (dss_cons (ds_set 12 sc_law.nd (de_call (ok__law_next T) (hr.mono (by decide)) (by rfl) T.m__law_next T.k__law_next T.v__law_next pass0 (da_cons (dv 1) (da_cons (de_B L2.call_len cd_len (by rfl) T.b_len (by decide +kernel) (da_cons (dv 4) da_nil)) da_nil)))) 
      (dss_cons (ds_set 13 sc_law.nd (de_ix ix_seq od_ix (dv 4) (dv 12) (fun _ _ => rfl))) 
      (dss_one (ds_for PassesOwn.never rfl (di_seq (de_lst (da_cons (de_tup da_nil) (da_cons (de_op op_addD od_add (dv 13) (de_sl (dv 13) do_none (do_some de_int))) (da_cons (de_op op_addD od_add (de_slStep (dv 13)) (de_tup (da_cons (de_tup (da_cons (de_str) (da_cons de_int da_nil))) da_nil))) (da_cons (de_op op_addD od_add (dv 13) (de_tup (da_cons (de_tup (da_cons (de_str) (da_cons de_int da_nil))) da_nil))) da_nil)))))) (dg_name 14 sc_law.nd) 
      (dss_one (ds_if (dt_not (dt_tru (de_call (ok__law_same T) (hr.mono (by decide)) (by rfl) T.m__law_same T.k__law_same T.v__law_same pass0 (da_cons (de_call (ok_agrees T) (hr.mono (by decide)) (by rfl) T.m_agrees T.k_agrees T.v_agrees pass0 (da_cons (dv 3) (da_cons (de_op op_addD od_add (de_op op_addD od_add (de_sl (dv 4) do_none (do_some (dv 12))) (de_lst (da_cons (dv 14) da_nil))) (de_sl (dv 4) (do_some (de_op op_addD od_add (dv 12) de_int)) do_none)) (da_cons (de_lst (da_cons (de_tup (da_cons (de_str) (da_cons (de_B L2.call_len cd_len (by rfl) T.b_len (by decide +kernel) (da_cons (dv 4) da_nil)) da_nil))) da_nil)) da_nil)))) (da_cons de_bl da_nil))))) 
      (dss_one (ds_ret de_bl)) dss_nil)))))))))))))))) 
      (dss_one (ds_ret de_bl)))))
    (by intro ds μ Q h; unfold C_law at h; split at h <;> first | rfl | exact h.elim) (by
  intro ds μ Q h
  unfold C_law at h
  split at h
  · rename_i ds' scr
    obtain ⟨hl, hq⟩ := h
    refine step_set (fun d μ' => ∃ dr, d = .ptr dr ∧ μ' dr = some .draw) (fun R hR => ?_) fun d μ1 hS => ?_
    · (walk_at "dl")
      exact ⟨hl, fun p hp => hR _ _ ⟨p, rfl, Mu.put_same⟩⟩
    obtain ⟨dr, rfl, hd⟩ := hS
    show sSeq _ _ _ [some (.scr scr), some (.ptr dr), none, none, none, none, none, none, none, none, none, none, none, none, none] μ1
    refine step_for (fun i : Nat => D.int (0 + (i : Nat))) (List.range 4) (fun _ ρ' μ' => (∃ a b c d e f g h i j k l m, ρ' = [some (.scr scr), some (.ptr dr), a, b, c, d, e, f, g, h, i, j, k, l, m]) ∧ μ1 = μ') (rg1 (i := 4) ⟨by decide, by decide⟩ fun R h => ?_) ⟨⟨_, _, _, _, _, _, _, _, _, _, _, _, _, rfl⟩, rfl⟩ (fun pre t post ρ' μ' e hI E0 hrt hE => ?_) fun ρ' μ' hI => ?_
    · (walk_at "dl")
      exact h
    · obtain ⟨⟨a, b, c, d, e, f, g, h, i, j, k, l, m, rfl⟩, rfl⟩ := hI
      show sSeq _ _ E0 [some (.scr scr), some (.ptr dr), some _, b, c, d, e, f, g, h, i, j, k, l, m] _
      -- the shelf
      refine step_set (fun d μ2 => ∃ sk ∈ shelves, d = eKeys sk ∧ μ1 = μ2) (fun R hR => ?_) fun d0 μ2 hS => ?_
      · (walk_at "dl")
        exact ⟨hd, fun s hs => hR _ _ ⟨s, hs, rfl, rfl⟩⟩
      obtain ⟨sk, hsk, rfl, rfl⟩ := hS
      -- the history
      refine step_set (fun d μ2 => ∃ hs : List Com, okH sk hs ∧ 1 ≤ hs.length ∧ hs.length ≤ 4 ∧ d = eHist hs ∧ μ1 = μ2) (fun R hR => ?_) fun d0 μ2 hS => ?_
      · (walk_at "dl")
        refine ⟨hd, by decide, by decide, fun y y0 y1 => ?_⟩
        (walk_at "dl")
        exact ⟨hd, sk, hsk, rfl, by omega, by omega, fun hs ho hh => hR _ _ ⟨hs, ho, by omega, by omega, rfl, rfl⟩⟩
      obtain ⟨hs, ho, l1, l4, rfl, rfl⟩ := hS
      have hc64 : ∀ c ∈ hs, c.length < 62 := fun c hc => by
        have h1 := (ho c hc).2.length_le
        have h2 := shelf3 sk hsk
        unfold keysOf at h1
        rw [List.length_map] at h1
        omega
      have hb : bdH hs := ⟨Nat.le_trans l4 (by decide), fun c hc => Nat.le_trans (Nat.le_of_lt (hc64 c hc)) (by decide)⟩
      show sSeq _ _ E0 [some (.scr scr), some (.ptr dr), some _, some (eKeys sk), some (eHist hs), d, e, f, g, h, i, j, k, l, m] _
      refine step_for D.str sk (fun _ ρ' μ2 => (∃ t d e f g, ρ' = [some (.scr scr), some (.ptr dr), t, some (eKeys sk), some (eHist hs), d, e, f, g, h, i, j, k, l, m]) ∧ μ1 = μ2) (seq_t fun R h => ?_) ⟨⟨_, _, _, _, _, rfl⟩, rfl⟩ (fun pre key post ρ' μ2 e2 hI E1 hrt1 hE1 => ?_) fun ρ' μ2 hI => ?_
      · (walk_at "dl")
        exact h
      · obtain ⟨⟨t, d, e, f, g, rfl⟩, rfl⟩ := hI
        show sSeq _ _ E1 [some (.scr scr), some (.ptr dr), t, some (eKeys sk), some (eHist hs), some (.str key), e, f, g, h, i, j, k, l, m] _
        refine step_set (fun d μ3 => d = .lst ((written hs key).map .int) ∧ μ1 = μ3) (fun R hR => ?_) fun d0 μ3 hS => ?_
        · (walk_at "dl")
          exact ⟨hs, rfl, hb, hR _ _ ⟨rfl, rfl⟩⟩
        obtain ⟨rfl, rfl⟩ := hS
        show sFor _ _ _ E1 [some (.scr scr), some (.ptr dr), t, some (eKeys sk), some (eHist hs), some (.str key), some (.lst ((written hs key).map .int)), f, g, h, i, j, k, l, m] _
        refine last_for (fun i : Nat => D.int (0 + (i : Nat))) (List.range ((hs.length : Int) + 1).toNat) (fun _ ρ' μ3 => (∃ f g, ρ' = [some (.scr scr), some (.ptr dr), t, some (eKeys sk), some (eHist hs), some (.str key), some (.lst ((written hs key).map .int)), f, g, h, i, j, k, l, m]) ∧ μ1 = μ3) (rg1 ⟨by omega, by omega⟩ fun R h => ?_) ⟨⟨_, _, rfl⟩, rfl⟩ (fun pre3 v post3 ρ' μ3 e3 hI E2 hrt2 hE2 => ?_) fun ρ' μ3 hI => ?_
        · unfold eHist
          (walk_at "dl")
          rw [List.length_map]
          exact h
        · obtain ⟨⟨f, g, rfl⟩, rfl⟩ := hI
          show sSeq _ _ E2 [some (.scr scr), some (.ptr dr), t, some (eKeys sk), some (eHist hs), some (.str key), some (.lst ((written hs key).map .int)), some (.int (0 + (v : Int))), g, h, i, j, k, l, m] _
          have e0 : (0 + (v : Int)).toNat = v := by omega
          refine step_set (fun d μ4 => d = .int (written (hs.take v) key).length ∧ μ1 = μ4) (fun R hR => ?_) fun d0 μ4 hS => ?_
          · unfold eHist
            (walk_at "dl")
            rw [cut_take _ (by omega), e0, ← List.map_take]
            refine ⟨hs.take v, rfl, bd_take hb v, ?_⟩
            (walk_at "dl")
            rw [List.length_map]
            exact hR _ _ ⟨rfl, rfl⟩
          obtain ⟨rfl, rfl⟩ := hS
          show sSeq _ _ E2 [some (.scr scr), some (.ptr dr), t, some (eKeys sk), some (eHist hs), some (.str key), some (.lst ((written hs key).map .int)), some (.int (0 + (v : Int))), some (.int (written (hs.take v) key).length), h, i, j, k, l, m] _
          refine step (fun ρ' μ5 => ρ' = [some (.scr scr), some (.ptr dr), t, some (eKeys sk), some (eHist hs), some (.str key), some (.lst ((written hs key).map .int)), some (.int (0 + (v : Int))), some (.int (written (hs.take v) key).length), h, i, j, k, l, m] ∧ μ1 = μ5) (fun E' hE' => ?_) fun ρ' μ5 hS => ?_
          · (walk_at "dl")
            refine ⟨hs, rfl, hb, by omega, ?_⟩
            rw [e0]
            refine ⟨rfl, ?_⟩
            (walk_at "dl")
            exact hE' _ _ ⟨rfl, rfl⟩
          obtain ⟨rfl, rfl⟩ := hS
          (walk_at "dl")
          refine ⟨hs, rfl, hb, by omega, ?_⟩
          rw [e0, value_last]
          have hle : (written (hs.take v) key).length ≤ (written hs key).length := by
            have h := written_app (hs.take v) (hs.drop v) key
            rw [List.take_append_drop] at h
            rw [h, List.length_append]
            omega
          generalize (written (hs.take v) key).length = n at hle
          show (if ((n : Int) != 0) = true then _ else _)
          by_cases hz : n = 0
          · subst hz
            rw [if_neg (by decide)]
            refine ⟨rfl, ?_⟩
            (walk_at "dl")
            exact hE2 _ _ ⟨⟨_, _, rfl⟩, rfl⟩
          · have e9 : ((n : Int) - 1).toNat = n - 1 := by omega
            have e8 : ((n : Int) != 0) = true := by rw [bne_iff_ne]; omega
            rw [if_pos e8, atI_map, atG 0 (by omega) (by omega), e9, if_neg hz]
            refine ⟨_, rfl, rfl, ?_⟩
            (walk_at "dl")
            exact hE2 _ _ ⟨⟨_, _, rfl⟩, rfl⟩
        · obtain ⟨⟨f, g, rfl⟩, rfl⟩ := hI
          exact hE1 _ _ ⟨⟨_, _, _, _, _, rfl⟩, rfl⟩
      · obtain ⟨⟨t, d, e, f, g, rfl⟩, rfl⟩ := hI
        -- the news
        refine step_set (fun d μ2 => ∃ (p : Addr) (ns : List Pc), d = .ptr p ∧ μ1 p = none ∧ ns.length ≤ 1 ∧ (∀ q ∈ ns, okV hs.length q) ∧ μ2 = μ1.put p (.lst (ns.map ePc))) (fun R hR => ?_) fun d0 μ2 hS => ?_
        · (walk_at "dl")
          refine ⟨hd, by decide, by decide, fun y y0 y1 => ?_⟩
          (walk_at "dl")
          by_cases hy : y = 0
          · rw [if_neg (by simp [hy])]
            exact fun p hp => hR _ _ ⟨p, [], rfl, hp, by decide, by simp, rfl⟩
          · rw [if_pos (by simp [hy])]
            unfold eHist
            (walk_at "dl")
            refine fun p hp => hR _ _ ⟨p, [.head hs.length], rfl, hp, Nat.le_refl 1, ?_, by rw [List.length_map]; rfl⟩
            intro q hq
            simp at hq
            subst hq
            exact ⟨by omega, by omega⟩
        obtain ⟨p, ns0, rfl, hp, hn1, ho0, rfl⟩ := hS
        have hdp : ∀ o : MO, (μ1.put p o) dr = some .draw := fun o => by rw [Mu.put_ne (Mu.ne_of hd hp)]; exact hd
        show sSeq _ _ E0 [some (.scr scr), some (.ptr dr), t, some (eKeys sk), some (eHist hs), d, e, f, g, some (.ptr p), i, j, k, l, m] _
        refine step_forQ (fun i : Nat => D.int (0 + (i : Nat))) (fun l => l.length ≤ 5) (fun pre ρ' μ2 => (∃ i j, ρ' = [some (.scr scr), some (.ptr dr), t, some (eKeys sk), some (eHist hs), d, e, f, g, some (.ptr p), i, j, k, l, m]) ∧ ∃ ns : List Pc, ns.length ≤ 1 + pre.length ∧ (∀ q ∈ ns, okV hs.length q) ∧ μ2 = μ1.put p (.lst (ns.map ePc))) (fun R hR => ?_) ⟨⟨_, _, rfl⟩, ns0, hn1, ho0, rfl⟩ (fun l0 pre q post ρ' μ2 hG e2 hI E1 hrt1 hE1 => ?_) fun l0 ρ' μ2 hG hI => ?_
        · unfold iRg1
          (walk_at "dl")
          refine ⟨hdp _, by decide, by decide, fun y y0 y1 => ⟨⟨by omega, by omega⟩, hR (List.range y.toNat) ?_⟩⟩
          rw [List.length_range]; omega
        · obtain ⟨⟨i, j, rfl⟩, ns, hn, hov, rfl⟩ := hI
          have hpl : pre.length ≤ 5 := by
            have h := congrArg List.length e2
            rw [List.length_append] at h
            omega
          show sSeq _ _ E1 [some (.scr scr), some (.ptr dr), t, some (eKeys sk), some (eHist hs), d, e, f, g, some (.ptr p), some (.int (0 + (q : Int))), j, k, l, m] _
          (walk_at "dl")
          refine ⟨hdp _, sk, hsk, hs, rfl, rfl, ho, l1, l4, fun pc opc => ?_⟩
          (walk_at "dl")
          refine ⟨p, _, rfl, Mu.put_same, hdp _, by decide, by decide, fun y y0 y1 => ⟨p_i, ?_⟩⟩
          have fin : ∀ pc' : Pc, okV hs.length pc' → ∃ ds, (μ1.put p (.lst (ns.map ePc))) p = some (.lst ds) ∧ ds.length < sizeLine ∧ E1.nx [some (.scr scr), some (.ptr dr), t, some (eKeys sk), some (eHist hs), d, e, f, g, some (.ptr p), some (.int (0 + (q : Int))), some (ePc pc), k, l, m] ((μ1.put p (.lst (ns.map ePc))).put p (.lst (ds ++ [ePc pc']))) := fun pc' ho' => by
            refine ⟨_, Mu.put_same, sz_small' (by rw [List.length_map]; omega), ?_⟩
            rw [Mu.put_put]
            refine hE1 _ _ ⟨⟨_, _, rfl⟩, ns ++ [pc'], by rw [List.length_append, List.length_append, List.length_singleton, List.length_singleton]; omega, fun q' hq' => ?_, by rw [List.map_append]; rfl⟩
            rcases List.mem_append.mp hq' with h | h
            · exact hov _ h
            · simp at h; subst h; exact ho'
          (walk_at "dl")
          by_cases hy : y = 0
          · rw [if_pos hy]
            exact ⟨hdp _, sk, hsk, pc, hs.length, rfl, rfl, opc, fun pc' opc' => fin pc' opc'⟩
          · rw [if_neg hy]
            exact fin pc opc
        · obtain ⟨⟨i, j, rfl⟩, ns, hn, hov, rfl⟩ := hI
          have hn6 : ns.length ≤ 6 := by omega
          refine step (fun ρ' μ2 => ρ' = [some (.scr scr), some (.ptr dr), t, some (eKeys sk), some (eHist hs), d, e, f, g, some (.ptr p), i, j, k, l, m] ∧ ∃ ns : List Pc, ns.length ≤ 7 ∧ (∀ q ∈ ns, okV hs.length q) ∧ μ2 = μ1.put p (.lst (ns.map ePc))) (fun E' hE' => ?_) fun ρ' μ2 hS => ?_
          · (walk_at "dl")
            refine ⟨hdp _, by decide, by decide, fun y y0 y1 => ⟨p_i, ?_⟩⟩
            (walk_at "dl")
            by_cases hy : y = 0
            · rw [if_pos hy]
              refine ⟨p, _, rfl, Mu.put_same, hdp _, by decide, by decide, fun z z0 z1 => ?_⟩
              (walk_at "dl")
              have hz : z = 0 ∨ z = 1 := by omega
              have fin : ∀ pc : Pc, okV hs.length pc → ∃ ds, (μ1.put p (.lst (ns.map ePc))) p = some (.lst ds) ∧ ds.length < sizeLine ∧ E'.nx [some (.scr scr), some (.ptr dr), t, some (eKeys sk), some (eHist hs), d, e, f, g, some (.ptr p), i, j, k, l, m] ((μ1.put p (.lst (ns.map ePc))).put p (.lst (ds ++ [ePc pc]))) := fun pc ho' => by
                refine ⟨_, Mu.put_same, sz_small' (by rw [List.length_map]; omega), ?_⟩
                rw [Mu.put_put]
                refine hE' _ _ ⟨rfl, ns ++ [pc], by rw [List.length_append, List.length_singleton]; omega, fun q' hq' => ?_, by rw [List.map_append]; rfl⟩
                rcases List.mem_append.mp hq' with h | h
                · exact hov _ h
                · simp at h; subst h; exact ho'
              rcases hz with rfl | rfl
              · exact ⟨_, at0, fin (.value "zz" 1 5) (by show (1 : Int) ≤ 1; omega)⟩
              · exact ⟨_, at1, fin (.times "zz" 1 0) ⟨by omega, by omega⟩⟩
            · rw [if_neg hy]
              exact hE' _ _ ⟨rfl, ns, by omega, hov, rfl⟩
          obtain ⟨rfl, ns, hn7, hov, rfl⟩ := hS
          refine ⟨p, _, rfl, Mu.put_same, ?_⟩
          rw [Mu.put_del hp]
          show sSeq _ _ E0 [some (.scr scr), some (.ptr dr), t, some (eKeys sk), some (eHist hs), d, e, f, g, some (eNews ns), i, j, k, l, m] _
          -- the head
          refine step (fun ρ' μ2 => ρ' = [some (.scr scr), some (.ptr dr), t, some (eKeys sk), some (eHist hs), d, e, f, g, some (eNews ns), i, j, k, l, m] ∧ μ2 = μ1) (fun E' hE' => ?_) fun ρ' μ2 hS => ?_
          · (walk_at "dl")
            refine ⟨ns, rfl, ⟨ns, rfl, head_eq hov, ?_⟩⟩
            (walk_at "dl")
            exact hE' _ _ ⟨rfl, rfl⟩
          obtain ⟨rfl, rfl⟩ := hS
          -- whether they agree
          refine step (fun ρ' μ3 => ρ' = [some (.scr scr), some (.ptr dr), t, some (eKeys sk), some (eHist hs), d, e, f, g, some (eNews ns), i, j, k, l, m] ∧ μ3 = μ2) (fun E' hE' => ?_) fun ρ' μ3 hS => ?_
          · (walk_at "dl")
            refine ⟨sk, hs, ns, rfl, rfl, rfl, hb.1, fun c hc => by have := hc64 c hc; omega, by omega, fun _ => hov, fun b hbb => ⟨sk, hs, ns, rfl, rfl, rfl, hb, hov, agree_eq hsk ho hov hbb, ?_⟩⟩
            (walk_at "dl")
            exact hE' _ _ ⟨rfl, rfl⟩
          obtain ⟨rfl, rfl⟩ := hS
          -- a wrong commit
          refine step_set (fun d μ4 => ∃ at' : Int, 0 ≤ at' ∧ at' < hs.length ∧ d = .int at' ∧ μ4 = μ3) (fun R hR => ?_) fun d0 μ4 hS => ?_
          · unfold eHist
            (walk_at "dl")
            refine ⟨hd, by rw [List.length_map]; omega, by rw [List.length_map]; omega, fun y y0 y1 => ?_⟩
            rw [List.length_map] at y1
            exact hR _ _ ⟨y, y0, y1, rfl, rfl⟩
          obtain ⟨at', a0, a1, rfl, rfl⟩ := hS
          have hcm : hs.getD at'.toNat [] ∈ hs := by
            rw [List.getD_eq_getElem?_getD, List.getElem?_eq_getElem (by omega)]
            exact List.getElem_mem _
          refine step_set (fun d μ5 => d = eCom (hs.getD at'.toNat []) ∧ μ5 = μ4) (fun R hR => ?_) fun d0 μ5 hS => ?_
          · unfold eHist
            (walk_at "dl")
            rw [atI_map, atG [] a0 (by omega)]
            exact ⟨_, rfl, hR _ _ ⟨rfl, rfl⟩⟩
          obtain ⟨rfl, rfl⟩ := hS
          generalize hs.getD at'.toNat [] = cm at hcm
          obtain ⟨n1, n2⟩ := ho cm hcm
          have hwr := wrong_com hsk n1 n2
          have hcl := hc64 cm hcm
          show sFor _ _ _ E0 [some (.scr scr), some (.ptr dr), t, some (eKeys sk), some (eHist hs), d, e, f, g, some (eNews ns), i, j, some (.int at'), some (eCom cm), m] _
          refine last_for eCom (wrongs cm) (fun _ ρ' μ6 => (∃ m, ρ' = [some (.scr scr), some (.ptr dr), t, some (eKeys sk), some (eHist hs), d, e, f, g, some (eNews ns), i, j, some (.int at'), some (eCom cm), m]) ∧ μ6 = μ5) (seq_l fun R h => ?_) ⟨⟨_, rfl⟩, rfl⟩ (fun pre x post ρ' μ6 e2 hI E1 hrt1 hE1 => ?_) fun ρ' μ6 hI => ?_
          · unfold eCom
            (walk_at "dl")
            rw [cut_take _ (by decide)]
            refine ⟨sz_small (by rw [List.length_take, List.length_map]; omega), ?_⟩
            unfold dRev
            (walk_at "dl")
            rw [List.length_reverse, List.length_map]
            refine ⟨sz_small (by omega), sz_small (by omega), ?_⟩
            have ew : [D.tup [], D.tup (cm.map ePair ++ (cm.map ePair).take (1 : Int).toNat), D.tup ((cm.map ePair).reverse ++ [D.tup [D.str "a", D.int 1]]), D.tup (cm.map ePair ++ [D.tup [D.str "zz", D.int 1]])] = (wrongs cm).map eCom := by
              unfold wrongs
              simp only [List.map_cons, List.map_nil, eCom, List.map_append, List.map_take, List.map_reverse, ePair]
              rfl
            rw [ew]
            exact h
          · obtain ⟨⟨m, rfl⟩, rfl⟩ := hI
            have hx : x ∈ wrongs cm := by rw [e2]; simp
            unfold eHist
            (walk_at "dl")
            rw [cut_take _ a0, cut_drop _ (by omega)]
            have hxl : x.length < 64 := wrong_len hx (by omega)
            have t1 : ((hs.map eCom).take at'.toNat).length ≤ 4 := by rw [List.length_take, List.length_map]; omega
            have t2 : ((hs.map eCom).drop (at' + 1).toNat).length ≤ 4 := by rw [List.length_drop, List.length_map]; omega
            refine ⟨sz_small (by omega), sz_small (by rw [List.length_append, List.length_singleton]; omega), ?_⟩
            have e5 : (hs.map eCom).take at'.toNat ++ [eCom x] ++ (hs.map eCom).drop (at' + 1).toNat = (hs.take at'.toNat ++ [x] ++ hs.drop (at' + 1).toNat).map eCom := by
              rw [List.map_append, List.map_append, List.map_take, List.map_drop]; rfl
            have l5 : (hs.take at'.toNat ++ [x] ++ hs.drop (at' + 1).toNat).length = hs.length := by
              rw [List.length_append, List.length_append, List.length_take, List.length_drop, List.length_singleton]; omega
            rw [e5, List.length_map]
            refine ⟨sk, _, [.head hs.length], rfl, rfl, rfl, by rw [l5]; omega, fun c hc => ?_, (by show 1 ≤ 1000; decide), fun _ q hq => ?_, fun b hbb => ?_⟩
            · rcases List.mem_append.mp hc with h | h
              · rcases List.mem_append.mp h with h | h
                · have := hc64 c (List.mem_of_mem_take h); omega
                · simp at h; subst h; exact hxl
              · have := hc64 c (List.mem_of_mem_drop h); omega
            · rw [l5]
              simp at hq
              subst hq
              exact ⟨by omega, by omega⟩
            · have hbf : b = false := by
                cases b with
                | false => rfl
                | true => exact absurd ((hbb.mp rfl).1 x (by simp)) (hwr x hx)
              subst hbf
              refine ⟨rfl, ?_⟩
              (walk_at "dl")
              exact hE1 _ _ ⟨⟨_, rfl⟩, rfl⟩
          · obtain ⟨⟨m, rfl⟩, rfl⟩ := hI
            exact hE _ _ ⟨⟨_, _, _, _, _, _, _, _, _, _, _, _, _, rfl⟩, rfl⟩
    · obtain ⟨⟨a, b, c, d, e, f, g, h, i, j, k, l, m, rfl⟩, rfl⟩ := hI
      exact hq _
  · exact h.elim
)

end
end K43
end

namespace K43
open PySem L2 DL
theorem sp_law {K : PySem.W.Frag} (H : Hp) (a : Addr) (ns : List Int) (hl : ns.length ≤ 63) (hS : SqL K H a (ns.map V.int)) : spD K C_law [.ref a] H (fun v _ => v = .bl true) fun _ _ _ => False := by
  have eh : DL.hide H (fun _ => none) = H := by funext b; rfl
  refine ⟨[.scr ns], fun _ => none, fun d _ => d = .bl true, ?_, (fun _ _ h => by cases h), ⟨hl, fun _ => rfl⟩, fun d _ v _ hd _ r => ?_⟩
  · rw [eh]; exact .cons (.scr hS) .nil
  · subst hd; cases r; rfl
theorem all_mk {l : PySem.W.OpenLaw} {w : World} {K : PySem.W.Frag} {h : Heap} {mg : Str → Option Value} {fa : Addr} (X : K.In h) (G : h.Ns mainGlobals mg) (hfa : mg "law" = some (.ref fa))
    {a__law_head : Addr} {od__law_head an__law_head : Option Addr} {sl__law_head : Array (Option Value)} {oc__law_head kV__law_head dc__law_head pm__law_head cd__law_head ct__law_head : Value}
    {a__law_holds : Addr} {od__law_holds an__law_holds : Option Addr} {sl__law_holds : Array (Option Value)} {oc__law_holds kV__law_holds dc__law_holds pm__law_holds cd__law_holds ct__law_holds : Value}
    {a__law_keys : Addr} {od__law_keys an__law_keys : Option Addr} {sl__law_keys : Array (Option Value)} {oc__law_keys kV__law_keys dc__law_keys pm__law_keys cd__law_keys ct__law_keys : Value}
    {a__law_values_clash : Addr} {od__law_values_clash an__law_values_clash : Option Addr} {sl__law_values_clash : Array (Option Value)} {oc__law_values_clash kV__law_values_clash dc__law_values_clash pm__law_values_clash cd__law_values_clash ct__law_values_clash : Value}
    {a__law_written : Addr} {od__law_written an__law_written : Option Addr} {sl__law_written : Array (Option Value)} {oc__law_written kV__law_written dc__law_written pm__law_written cd__law_written ct__law_written : Value}
    {a__law_agrees : Addr} {od__law_agrees an__law_agrees : Option Addr} {sl__law_agrees : Array (Option Value)} {oc__law_agrees kV__law_agrees dc__law_agrees pm__law_agrees cd__law_agrees ct__law_agrees : Value}
    {a__law_commits : Addr} {od__law_commits an__law_commits : Option Addr} {sl__law_commits : Array (Option Value)} {oc__law_commits kV__law_commits dc__law_commits pm__law_commits cd__law_commits ct__law_commits : Value}
    {a__law_next : Addr} {od__law_next an__law_next : Option Addr} {sl__law_next : Array (Option Value)} {oc__law_next kV__law_next dc__law_next pm__law_next cd__law_next ct__law_next : Value}
    {a__law_bent : Addr} {od__law_bent an__law_bent : Option Addr} {sl__law_bent : Array (Option Value)} {oc__law_bent kV__law_bent dc__law_bent pm__law_bent cd__law_bent ct__law_bent : Value}
    {a__law_draw : Addr} {od__law_draw an__law_draw : Option Addr} {sl__law_draw : Array (Option Value)} {oc__law_draw kV__law_draw dc__law_draw pm__law_draw cd__law_draw ct__law_draw : Value}
    {a__law_history : Addr} {od__law_history an__law_history : Option Addr} {sl__law_history : Array (Option Value)} {oc__law_history kV__law_history dc__law_history pm__law_history cd__law_history ct__law_history : Value}
    {a__law_same : Addr} {od__law_same an__law_same : Option Addr} {sl__law_same : Array (Option Value)} {oc__law_same kV__law_same dc__law_same pm__law_same cd__law_same ct__law_same : Value}
    {a__law_shelf : Addr} {od__law_shelf an__law_shelf : Option Addr} {sl__law_shelf : Array (Option Value)} {oc__law_shelf kV__law_shelf dc__law_shelf pm__law_shelf cd__law_shelf ct__law_shelf : Value}
    {a__law_told : Addr} {od__law_told an__law_told : Option Addr} {sl__law_told : Array (Option Value)} {oc__law_told kV__law_told dc__law_told pm__law_told cd__law_told ct__law_told : Value}
    {a__law_true : Addr} {od__law_true an__law_true : Option Addr} {sl__law_true : Array (Option Value)} {oc__law_true kV__law_true dc__law_true pm__law_true cd__law_true ct__law_true : Value}
    {a_version_of : Addr} {od_version_of an_version_of : Option Addr} {sl_version_of : Array (Option Value)} {oc_version_of kV_version_of dc_version_of pm_version_of cd_version_of ct_version_of : Value}
    {a_head_of : Addr} {od_head_of an_head_of : Option Addr} {sl_head_of : Array (Option Value)} {oc_head_of kV_head_of dc_head_of pm_head_of cd_head_of ct_head_of : Value}
    {a_is_commit : Addr} {od_is_commit an_is_commit : Option Addr} {sl_is_commit : Array (Option Value)} {oc_is_commit kV_is_commit dc_is_commit pm_is_commit cd_is_commit ct_is_commit : Value}
    {a_keys_written : Addr} {od_keys_written an_keys_written : Option Addr} {sl_keys_written : Array (Option Value)} {oc_keys_written kV_keys_written dc_keys_written pm_keys_written cd_keys_written ct_keys_written : Value}
    {a_commit_is_true : Addr} {od_commit_is_true an_commit_is_true : Option Addr} {sl_commit_is_true : Array (Option Value)} {oc_commit_is_true kV_commit_is_true dc_commit_is_true pm_commit_is_true cd_commit_is_true ct_commit_is_true : Value}
    {a_shelf_keys : Addr} {od_shelf_keys an_shelf_keys : Option Addr} {sl_shelf_keys : Array (Option Value)} {oc_shelf_keys kV_shelf_keys dc_shelf_keys pm_shelf_keys cd_shelf_keys ct_shelf_keys : Value}
    {a_values_written : Addr} {od_values_written an_values_written : Option Addr} {sl_values_written : Array (Option Value)} {oc_values_written kV_values_written dc_values_written pm_values_written cd_values_written ct_values_written : Value}
    {a_times_in : Addr} {od_times_in an_times_in : Option Addr} {sl_times_in : Array (Option Value)} {oc_times_in kV_times_in dc_times_in pm_times_in cd_times_in ct_times_in : Value}
    {a_value_is_true : Addr} {od_value_is_true an_value_is_true : Option Addr} {sl_value_is_true : Array (Option Value)} {oc_value_is_true kV_value_is_true dc_value_is_true pm_value_is_true cd_value_is_true ct_value_is_true : Value}
    {a_is_true : Addr} {od_is_true an_is_true : Option Addr} {sl_is_true : Array (Option Value)} {oc_is_true kV_is_true dc_is_true pm_is_true cd_is_true ct_is_true : Value}
    {a_differ : Addr} {od_differ an_differ : Option Addr} {sl_differ : Array (Option Value)} {oc_differ kV_differ dc_differ pm_differ cd_differ ct_differ : Value}
    {a_tells_two_values : Addr} {od_tells_two_values an_tells_two_values : Option Addr} {sl_tells_two_values : Array (Option Value)} {oc_tells_two_values kV_tells_two_values dc_tells_two_values pm_tells_two_values cd_tells_two_values ct_tells_two_values : Value}
    {a_agrees : Addr} {od_agrees an_agrees : Option Addr} {sl_agrees : Array (Option Value)} {oc_agrees kV_agrees dc_agrees pm_agrees cd_agrees ct_agrees : Value}
    {a_value_in : Addr} {od_value_in an_value_in : Option Addr} {sl_value_in : Array (Option Value)} {oc_value_in kV_value_in dc_value_in pm_value_in cd_value_in ct_value_in : Value}
    {a_law : Addr} {od_law an_law : Option Addr} {sl_law : Array (Option Value)} {oc_law kV_law dc_law pm_law cd_law ct_law : Value}
    (n__law_head : PySem.W.nsIn K mainGlobals "_law_head" = some (some (.ref a__law_head))) (l__law_head : K.lookup a__law_head = some ⟨oc__law_head, od__law_head, .func (PySem.W.fnOf "_law_head" "_law_head" (defArgs s__law_head) (defBody s__law_head) (defScope s__law_head) .none kV__law_head dc__law_head pm__law_head an__law_head cd__law_head ct__law_head), sl__law_head⟩) (c__law_head : PySem.W.codeIn K cd__law_head "_law_head" = true) (k__law_head : PySem.W.keepIn K (.ref a__law_head) = true)
    (n__law_holds : PySem.W.nsIn K mainGlobals "_law_holds" = some (some (.ref a__law_holds))) (l__law_holds : K.lookup a__law_holds = some ⟨oc__law_holds, od__law_holds, .func (PySem.W.fnOf "_law_holds" "_law_holds" (defArgs s__law_holds) (defBody s__law_holds) (defScope s__law_holds) .none kV__law_holds dc__law_holds pm__law_holds an__law_holds cd__law_holds ct__law_holds), sl__law_holds⟩) (c__law_holds : PySem.W.codeIn K cd__law_holds "_law_holds" = true) (k__law_holds : PySem.W.keepIn K (.ref a__law_holds) = true)
    (n__law_keys : PySem.W.nsIn K mainGlobals "_law_keys" = some (some (.ref a__law_keys))) (l__law_keys : K.lookup a__law_keys = some ⟨oc__law_keys, od__law_keys, .func (PySem.W.fnOf "_law_keys" "_law_keys" (defArgs s__law_keys) (defBody s__law_keys) (defScope s__law_keys) .none kV__law_keys dc__law_keys pm__law_keys an__law_keys cd__law_keys ct__law_keys), sl__law_keys⟩) (c__law_keys : PySem.W.codeIn K cd__law_keys "_law_keys" = true) (k__law_keys : PySem.W.keepIn K (.ref a__law_keys) = true)
    (n__law_values_clash : PySem.W.nsIn K mainGlobals "_law_values_clash" = some (some (.ref a__law_values_clash))) (l__law_values_clash : K.lookup a__law_values_clash = some ⟨oc__law_values_clash, od__law_values_clash, .func (PySem.W.fnOf "_law_values_clash" "_law_values_clash" (defArgs s__law_values_clash) (defBody s__law_values_clash) (defScope s__law_values_clash) .none kV__law_values_clash dc__law_values_clash pm__law_values_clash an__law_values_clash cd__law_values_clash ct__law_values_clash), sl__law_values_clash⟩) (c__law_values_clash : PySem.W.codeIn K cd__law_values_clash "_law_values_clash" = true) (k__law_values_clash : PySem.W.keepIn K (.ref a__law_values_clash) = true)
    (n__law_written : PySem.W.nsIn K mainGlobals "_law_written" = some (some (.ref a__law_written))) (l__law_written : K.lookup a__law_written = some ⟨oc__law_written, od__law_written, .func (PySem.W.fnOf "_law_written" "_law_written" (defArgs s__law_written) (defBody s__law_written) (defScope s__law_written) .none kV__law_written dc__law_written pm__law_written an__law_written cd__law_written ct__law_written), sl__law_written⟩) (c__law_written : PySem.W.codeIn K cd__law_written "_law_written" = true) (k__law_written : PySem.W.keepIn K (.ref a__law_written) = true)
    (n__law_agrees : PySem.W.nsIn K mainGlobals "_law_agrees" = some (some (.ref a__law_agrees))) (l__law_agrees : K.lookup a__law_agrees = some ⟨oc__law_agrees, od__law_agrees, .func (PySem.W.fnOf "_law_agrees" "_law_agrees" (defArgs s__law_agrees) (defBody s__law_agrees) (defScope s__law_agrees) .none kV__law_agrees dc__law_agrees pm__law_agrees an__law_agrees cd__law_agrees ct__law_agrees), sl__law_agrees⟩) (c__law_agrees : PySem.W.codeIn K cd__law_agrees "_law_agrees" = true) (k__law_agrees : PySem.W.keepIn K (.ref a__law_agrees) = true)
    (n__law_commits : PySem.W.nsIn K mainGlobals "_law_commits" = some (some (.ref a__law_commits))) (l__law_commits : K.lookup a__law_commits = some ⟨oc__law_commits, od__law_commits, .func (PySem.W.fnOf "_law_commits" "_law_commits" (defArgs s__law_commits) (defBody s__law_commits) (defScope s__law_commits) .none kV__law_commits dc__law_commits pm__law_commits an__law_commits cd__law_commits ct__law_commits), sl__law_commits⟩) (c__law_commits : PySem.W.codeIn K cd__law_commits "_law_commits" = true) (k__law_commits : PySem.W.keepIn K (.ref a__law_commits) = true)
    (n__law_next : PySem.W.nsIn K mainGlobals "_law_next" = some (some (.ref a__law_next))) (l__law_next : K.lookup a__law_next = some ⟨oc__law_next, od__law_next, .func (PySem.W.fnOf "_law_next" "_law_next" (defArgs s__law_next) (defBody s__law_next) (defScope s__law_next) .none kV__law_next dc__law_next pm__law_next an__law_next cd__law_next ct__law_next), sl__law_next⟩) (c__law_next : PySem.W.codeIn K cd__law_next "_law_next" = true) (k__law_next : PySem.W.keepIn K (.ref a__law_next) = true)
    (n__law_bent : PySem.W.nsIn K mainGlobals "_law_bent" = some (some (.ref a__law_bent))) (l__law_bent : K.lookup a__law_bent = some ⟨oc__law_bent, od__law_bent, .func (PySem.W.fnOf "_law_bent" "_law_bent" (defArgs s__law_bent) (defBody s__law_bent) (defScope s__law_bent) .none kV__law_bent dc__law_bent pm__law_bent an__law_bent cd__law_bent ct__law_bent), sl__law_bent⟩) (c__law_bent : PySem.W.codeIn K cd__law_bent "_law_bent" = true) (k__law_bent : PySem.W.keepIn K (.ref a__law_bent) = true)
    (n__law_draw : PySem.W.nsIn K mainGlobals "_law_draw" = some (some (.ref a__law_draw))) (l__law_draw : K.lookup a__law_draw = some ⟨oc__law_draw, od__law_draw, .func (PySem.W.fnOf "_law_draw" "_law_draw" (defArgs s__law_draw) (defBody s__law_draw) (defScope s__law_draw) .none kV__law_draw dc__law_draw pm__law_draw an__law_draw cd__law_draw ct__law_draw), sl__law_draw⟩) (c__law_draw : PySem.W.codeIn K cd__law_draw "_law_draw" = true) (k__law_draw : PySem.W.keepIn K (.ref a__law_draw) = true)
    (n__law_history : PySem.W.nsIn K mainGlobals "_law_history" = some (some (.ref a__law_history))) (l__law_history : K.lookup a__law_history = some ⟨oc__law_history, od__law_history, .func (PySem.W.fnOf "_law_history" "_law_history" (defArgs s__law_history) (defBody s__law_history) (defScope s__law_history) .none kV__law_history dc__law_history pm__law_history an__law_history cd__law_history ct__law_history), sl__law_history⟩) (c__law_history : PySem.W.codeIn K cd__law_history "_law_history" = true) (k__law_history : PySem.W.keepIn K (.ref a__law_history) = true)
    (n__law_same : PySem.W.nsIn K mainGlobals "_law_same" = some (some (.ref a__law_same))) (l__law_same : K.lookup a__law_same = some ⟨oc__law_same, od__law_same, .func (PySem.W.fnOf "_law_same" "_law_same" (defArgs s__law_same) (defBody s__law_same) (defScope s__law_same) .none kV__law_same dc__law_same pm__law_same an__law_same cd__law_same ct__law_same), sl__law_same⟩) (c__law_same : PySem.W.codeIn K cd__law_same "_law_same" = true) (k__law_same : PySem.W.keepIn K (.ref a__law_same) = true)
    (n__law_shelf : PySem.W.nsIn K mainGlobals "_law_shelf" = some (some (.ref a__law_shelf))) (l__law_shelf : K.lookup a__law_shelf = some ⟨oc__law_shelf, od__law_shelf, .func (PySem.W.fnOf "_law_shelf" "_law_shelf" (defArgs s__law_shelf) (defBody s__law_shelf) (defScope s__law_shelf) .none kV__law_shelf dc__law_shelf pm__law_shelf an__law_shelf cd__law_shelf ct__law_shelf), sl__law_shelf⟩) (c__law_shelf : PySem.W.codeIn K cd__law_shelf "_law_shelf" = true) (k__law_shelf : PySem.W.keepIn K (.ref a__law_shelf) = true)
    (n__law_told : PySem.W.nsIn K mainGlobals "_law_told" = some (some (.ref a__law_told))) (l__law_told : K.lookup a__law_told = some ⟨oc__law_told, od__law_told, .func (PySem.W.fnOf "_law_told" "_law_told" (defArgs s__law_told) (defBody s__law_told) (defScope s__law_told) .none kV__law_told dc__law_told pm__law_told an__law_told cd__law_told ct__law_told), sl__law_told⟩) (c__law_told : PySem.W.codeIn K cd__law_told "_law_told" = true) (k__law_told : PySem.W.keepIn K (.ref a__law_told) = true)
    (n__law_true : PySem.W.nsIn K mainGlobals "_law_true" = some (some (.ref a__law_true))) (l__law_true : K.lookup a__law_true = some ⟨oc__law_true, od__law_true, .func (PySem.W.fnOf "_law_true" "_law_true" (defArgs s__law_true) (defBody s__law_true) (defScope s__law_true) .none kV__law_true dc__law_true pm__law_true an__law_true cd__law_true ct__law_true), sl__law_true⟩) (c__law_true : PySem.W.codeIn K cd__law_true "_law_true" = true) (k__law_true : PySem.W.keepIn K (.ref a__law_true) = true)
    (n_version_of : PySem.W.nsIn K mainGlobals "version_of" = some (some (.ref a_version_of))) (l_version_of : K.lookup a_version_of = some ⟨oc_version_of, od_version_of, .func (PySem.W.fnOf "version_of" "version_of" (defArgs s_version_of) (defBody s_version_of) (defScope s_version_of) .none kV_version_of dc_version_of pm_version_of an_version_of cd_version_of ct_version_of), sl_version_of⟩) (c_version_of : PySem.W.codeIn K cd_version_of "version_of" = true) (k_version_of : PySem.W.keepIn K (.ref a_version_of) = true)
    (n_head_of : PySem.W.nsIn K mainGlobals "head_of" = some (some (.ref a_head_of))) (l_head_of : K.lookup a_head_of = some ⟨oc_head_of, od_head_of, .func (PySem.W.fnOf "head_of" "head_of" (defArgs s_head_of) (defBody s_head_of) (defScope s_head_of) .none kV_head_of dc_head_of pm_head_of an_head_of cd_head_of ct_head_of), sl_head_of⟩) (c_head_of : PySem.W.codeIn K cd_head_of "head_of" = true) (k_head_of : PySem.W.keepIn K (.ref a_head_of) = true)
    (n_is_commit : PySem.W.nsIn K mainGlobals "is_commit" = some (some (.ref a_is_commit))) (l_is_commit : K.lookup a_is_commit = some ⟨oc_is_commit, od_is_commit, .func (PySem.W.fnOf "is_commit" "is_commit" (defArgs s_is_commit) (defBody s_is_commit) (defScope s_is_commit) .none kV_is_commit dc_is_commit pm_is_commit an_is_commit cd_is_commit ct_is_commit), sl_is_commit⟩) (c_is_commit : PySem.W.codeIn K cd_is_commit "is_commit" = true) (k_is_commit : PySem.W.keepIn K (.ref a_is_commit) = true)
    (n_keys_written : PySem.W.nsIn K mainGlobals "keys_written" = some (some (.ref a_keys_written))) (l_keys_written : K.lookup a_keys_written = some ⟨oc_keys_written, od_keys_written, .func (PySem.W.fnOf "keys_written" "keys_written" (defArgs s_keys_written) (defBody s_keys_written) (defScope s_keys_written) .none kV_keys_written dc_keys_written pm_keys_written an_keys_written cd_keys_written ct_keys_written), sl_keys_written⟩) (c_keys_written : PySem.W.codeIn K cd_keys_written "keys_written" = true) (k_keys_written : PySem.W.keepIn K (.ref a_keys_written) = true)
    (n_commit_is_true : PySem.W.nsIn K mainGlobals "commit_is_true" = some (some (.ref a_commit_is_true))) (l_commit_is_true : K.lookup a_commit_is_true = some ⟨oc_commit_is_true, od_commit_is_true, .func (PySem.W.fnOf "commit_is_true" "commit_is_true" (defArgs s_commit_is_true) (defBody s_commit_is_true) (defScope s_commit_is_true) .none kV_commit_is_true dc_commit_is_true pm_commit_is_true an_commit_is_true cd_commit_is_true ct_commit_is_true), sl_commit_is_true⟩) (c_commit_is_true : PySem.W.codeIn K cd_commit_is_true "commit_is_true" = true) (k_commit_is_true : PySem.W.keepIn K (.ref a_commit_is_true) = true)
    (n_shelf_keys : PySem.W.nsIn K mainGlobals "shelf_keys" = some (some (.ref a_shelf_keys))) (l_shelf_keys : K.lookup a_shelf_keys = some ⟨oc_shelf_keys, od_shelf_keys, .func (PySem.W.fnOf "shelf_keys" "shelf_keys" (defArgs s_shelf_keys) (defBody s_shelf_keys) (defScope s_shelf_keys) .none kV_shelf_keys dc_shelf_keys pm_shelf_keys an_shelf_keys cd_shelf_keys ct_shelf_keys), sl_shelf_keys⟩) (c_shelf_keys : PySem.W.codeIn K cd_shelf_keys "shelf_keys" = true) (k_shelf_keys : PySem.W.keepIn K (.ref a_shelf_keys) = true)
    (n_values_written : PySem.W.nsIn K mainGlobals "values_written" = some (some (.ref a_values_written))) (l_values_written : K.lookup a_values_written = some ⟨oc_values_written, od_values_written, .func (PySem.W.fnOf "values_written" "values_written" (defArgs s_values_written) (defBody s_values_written) (defScope s_values_written) .none kV_values_written dc_values_written pm_values_written an_values_written cd_values_written ct_values_written), sl_values_written⟩) (c_values_written : PySem.W.codeIn K cd_values_written "values_written" = true) (k_values_written : PySem.W.keepIn K (.ref a_values_written) = true)
    (n_times_in : PySem.W.nsIn K mainGlobals "times_in" = some (some (.ref a_times_in))) (l_times_in : K.lookup a_times_in = some ⟨oc_times_in, od_times_in, .func (PySem.W.fnOf "times_in" "times_in" (defArgs s_times_in) (defBody s_times_in) (defScope s_times_in) .none kV_times_in dc_times_in pm_times_in an_times_in cd_times_in ct_times_in), sl_times_in⟩) (c_times_in : PySem.W.codeIn K cd_times_in "times_in" = true) (k_times_in : PySem.W.keepIn K (.ref a_times_in) = true)
    (n_value_is_true : PySem.W.nsIn K mainGlobals "value_is_true" = some (some (.ref a_value_is_true))) (l_value_is_true : K.lookup a_value_is_true = some ⟨oc_value_is_true, od_value_is_true, .func (PySem.W.fnOf "value_is_true" "value_is_true" (defArgs s_value_is_true) (defBody s_value_is_true) (defScope s_value_is_true) .none kV_value_is_true dc_value_is_true pm_value_is_true an_value_is_true cd_value_is_true ct_value_is_true), sl_value_is_true⟩) (c_value_is_true : PySem.W.codeIn K cd_value_is_true "value_is_true" = true) (k_value_is_true : PySem.W.keepIn K (.ref a_value_is_true) = true)
    (n_is_true : PySem.W.nsIn K mainGlobals "is_true" = some (some (.ref a_is_true))) (l_is_true : K.lookup a_is_true = some ⟨oc_is_true, od_is_true, .func (PySem.W.fnOf "is_true" "is_true" (defArgs s_is_true) (defBody s_is_true) (defScope s_is_true) .none kV_is_true dc_is_true pm_is_true an_is_true cd_is_true ct_is_true), sl_is_true⟩) (c_is_true : PySem.W.codeIn K cd_is_true "is_true" = true) (k_is_true : PySem.W.keepIn K (.ref a_is_true) = true)
    (n_differ : PySem.W.nsIn K mainGlobals "differ" = some (some (.ref a_differ))) (l_differ : K.lookup a_differ = some ⟨oc_differ, od_differ, .func (PySem.W.fnOf "differ" "differ" (defArgs s_differ) (defBody s_differ) (defScope s_differ) .none kV_differ dc_differ pm_differ an_differ cd_differ ct_differ), sl_differ⟩) (c_differ : PySem.W.codeIn K cd_differ "differ" = true) (k_differ : PySem.W.keepIn K (.ref a_differ) = true)
    (n_tells_two_values : PySem.W.nsIn K mainGlobals "tells_two_values" = some (some (.ref a_tells_two_values))) (l_tells_two_values : K.lookup a_tells_two_values = some ⟨oc_tells_two_values, od_tells_two_values, .func (PySem.W.fnOf "tells_two_values" "tells_two_values" (defArgs s_tells_two_values) (defBody s_tells_two_values) (defScope s_tells_two_values) .none kV_tells_two_values dc_tells_two_values pm_tells_two_values an_tells_two_values cd_tells_two_values ct_tells_two_values), sl_tells_two_values⟩) (c_tells_two_values : PySem.W.codeIn K cd_tells_two_values "tells_two_values" = true) (k_tells_two_values : PySem.W.keepIn K (.ref a_tells_two_values) = true)
    (n_agrees : PySem.W.nsIn K mainGlobals "agrees" = some (some (.ref a_agrees))) (l_agrees : K.lookup a_agrees = some ⟨oc_agrees, od_agrees, .func (PySem.W.fnOf "agrees" "agrees" (defArgs s_agrees) (defBody s_agrees) (defScope s_agrees) .none kV_agrees dc_agrees pm_agrees an_agrees cd_agrees ct_agrees), sl_agrees⟩) (c_agrees : PySem.W.codeIn K cd_agrees "agrees" = true) (k_agrees : PySem.W.keepIn K (.ref a_agrees) = true)
    (n_value_in : PySem.W.nsIn K mainGlobals "value_in" = some (some (.ref a_value_in))) (l_value_in : K.lookup a_value_in = some ⟨oc_value_in, od_value_in, .func (PySem.W.fnOf "value_in" "value_in" (defArgs s_value_in) (defBody s_value_in) (defScope s_value_in) .none kV_value_in dc_value_in pm_value_in an_value_in cd_value_in ct_value_in), sl_value_in⟩) (c_value_in : PySem.W.codeIn K cd_value_in "value_in" = true) (k_value_in : PySem.W.keepIn K (.ref a_value_in) = true)
    (n_law : PySem.W.nsIn K mainGlobals "law" = some (some (.ref a_law))) (l_law : K.lookup a_law = some ⟨oc_law, od_law, .func (PySem.W.fnOf "law" "law" (defArgs s_law) (defBody s_law) (defScope s_law) .none kV_law dc_law pm_law an_law cd_law ct_law), sl_law⟩) (c_law : PySem.W.codeIn K cd_law "law" = true) (k_law : PySem.W.keepIn K (.ref a_law) = true)
    (z_abs : PySem.W.nsIn K mainGlobals "abs" = some none)
    (z_all : PySem.W.nsIn K mainGlobals "all" = some none)
    (z_bool : PySem.W.nsIn K mainGlobals "bool" = some none)
    (z_int : PySem.W.nsIn K mainGlobals "int" = some none)
    (z_isinstance : PySem.W.nsIn K mainGlobals "isinstance" = some none)
    (z_len : PySem.W.nsIn K mainGlobals "len" = some none)
    (z_list : PySem.W.nsIn K mainGlobals "list" = some none)
    (z_max : PySem.W.nsIn K mainGlobals "max" = some none)
    (z_range : PySem.W.nsIn K mainGlobals "range" = some none)
    (z_set : PySem.W.nsIn K mainGlobals "set" = some none)
    (z_sorted : PySem.W.nsIn K mainGlobals "sorted" = some none)
    (z_str : PySem.W.nsIn K mainGlobals "str" = some none)
    (z_tuple : PySem.W.nsIn K mainGlobals "tuple" = some none)
    : ∃ fd : FuncData, (∀ (s : Shared) (v : Value), BindsTo s fd ⟨[v], []⟩ [("script", v)]) ∧ ∀ base : Heap, K.In base → base.Ns mainGlobals mg → FnOk l.prog w K mg base CX0 13 fa fd ["script"] (spD K C_law) := by
  have e := hfa.symm.trans (PySem.W.mg_of X G n_law)
  cases e
  have F__law_head := fun_mk (st := s__law_head) l__law_head c__law_head k__law_head
  have v__law_head := F__law_head.binds (ps := ["news"]) fun _ _ _ _ _ _ us hl => match us, hl with | [_], _ => rfl
  have F__law_holds := fun_mk (st := s__law_holds) l__law_holds c__law_holds k__law_holds
  have v__law_holds := F__law_holds.binds (ps := ["shelf", "table", "piece"]) fun _ _ _ _ _ _ us hl => match us, hl with | [_, _, _], _ => rfl
  have F__law_keys := fun_mk (st := s__law_keys) l__law_keys c__law_keys k__law_keys
  have v__law_keys := F__law_keys.binds (ps := ["history"]) fun _ _ _ _ _ _ us hl => match us, hl with | [_], _ => rfl
  have F__law_values_clash := fun_mk (st := s__law_values_clash) l__law_values_clash c__law_values_clash k__law_values_clash
  have v__law_values_clash := F__law_values_clash.binds (ps := ["news"]) fun _ _ _ _ _ _ us hl => match us, hl with | [_], _ => rfl
  have F__law_written := fun_mk (st := s__law_written) l__law_written c__law_written k__law_written
  have v__law_written := F__law_written.binds (ps := ["history", "key"]) fun _ _ _ _ _ _ us hl => match us, hl with | [_, _], _ => rfl
  have F__law_agrees := fun_mk (st := s__law_agrees) l__law_agrees c__law_agrees k__law_agrees
  have v__law_agrees := F__law_agrees.binds (ps := ["shelf", "history", "news"]) fun _ _ _ _ _ _ us hl => match us, hl with | [_, _, _], _ => rfl
  have F__law_commits := fun_mk (st := s__law_commits) l__law_commits c__law_commits k__law_commits
  have v__law_commits := F__law_commits.binds (ps := ["shelf"]) fun _ _ _ _ _ _ us hl => match us, hl with | [_], _ => rfl
  have F__law_next := fun_mk (st := s__law_next) l__law_next c__law_next k__law_next
  have v__law_next := F__law_next.binds (ps := ["draw", "many"]) fun _ _ _ _ _ _ us hl => match us, hl with | [_, _], _ => rfl
  have F__law_bent := fun_mk (st := s__law_bent) l__law_bent c__law_bent k__law_bent
  have v__law_bent := F__law_bent.binds (ps := ["draw", "shelf", "piece"]) fun _ _ _ _ _ _ us hl => match us, hl with | [_, _, _], _ => rfl
  have F__law_draw := fun_mk (st := s__law_draw) l__law_draw c__law_draw k__law_draw
  have v__law_draw := F__law_draw.binds (ps := ["script"]) fun _ _ _ _ _ _ us hl => match us, hl with | [_], _ => rfl
  have F__law_history := fun_mk (st := s__law_history) l__law_history c__law_history k__law_history
  have v__law_history := F__law_history.binds (ps := ["draw", "shelf", "many"]) fun _ _ _ _ _ _ us hl => match us, hl with | [_, _, _], _ => rfl
  have F__law_same := fun_mk (st := s__law_same) l__law_same c__law_same k__law_same
  have v__law_same := F__law_same.binds (ps := ["actual", "due"]) fun _ _ _ _ _ _ us hl => match us, hl with | [_, _], _ => rfl
  have F__law_shelf := fun_mk (st := s__law_shelf) l__law_shelf c__law_shelf k__law_shelf
  have v__law_shelf := F__law_shelf.binds (ps := ["draw"]) fun _ _ _ _ _ _ us hl => match us, hl with | [_], _ => rfl
  have F__law_told := fun_mk (st := s__law_told) l__law_told c__law_told k__law_told
  have v__law_told := F__law_told.binds (ps := ["draw", "shelf", "table", "most"]) fun _ _ _ _ _ _ us hl => match us, hl with | [_, _, _, _], _ => rfl
  have F__law_true := fun_mk (st := s__law_true) l__law_true c__law_true k__law_true
  have v__law_true := F__law_true.binds (ps := ["draw", "shelf", "history"]) fun _ _ _ _ _ _ us hl => match us, hl with | [_, _, _], _ => rfl
  have F_version_of := fun_mk (st := s_version_of) l_version_of c_version_of k_version_of
  have v_version_of := F_version_of.binds (ps := ["piece"]) fun _ _ _ _ _ _ us hl => match us, hl with | [_], _ => rfl
  have F_head_of := fun_mk (st := s_head_of) l_head_of c_head_of k_head_of
  have v_head_of := F_head_of.binds (ps := ["news"]) fun _ _ _ _ _ _ us hl => match us, hl with | [_], _ => rfl
  have F_is_commit := fun_mk (st := s_is_commit) l_is_commit c_is_commit k_is_commit
  have v_is_commit := F_is_commit.binds (ps := ["shelf", "commit"]) fun _ _ _ _ _ _ us hl => match us, hl with | [_, _], _ => rfl
  have F_keys_written := fun_mk (st := s_keys_written) l_keys_written c_keys_written k_keys_written
  have v_keys_written := F_keys_written.binds (ps := ["history", "version"]) fun _ _ _ _ _ _ us hl => match us, hl with | [_, _], _ => rfl
  have F_commit_is_true := fun_mk (st := s_commit_is_true) l_commit_is_true c_commit_is_true k_commit_is_true
  have v_commit_is_true := F_commit_is_true.binds (ps := ["history", "piece"]) fun _ _ _ _ _ _ us hl => match us, hl with | [_, _], _ => rfl
  have F_shelf_keys := fun_mk (st := s_shelf_keys) l_shelf_keys c_shelf_keys k_shelf_keys
  have v_shelf_keys := F_shelf_keys.binds (ps := ["piece"]) fun _ _ _ _ _ _ us hl => match us, hl with | [_], _ => rfl
  have F_values_written := fun_mk (st := s_values_written) l_values_written c_values_written k_values_written
  have v_values_written := F_values_written.binds (ps := ["history", "key", "version"]) fun _ _ _ _ _ _ us hl => match us, hl with | [_, _, _], _ => rfl
  have F_times_in := fun_mk (st := s_times_in) l_times_in c_times_in k_times_in
  have v_times_in := F_times_in.binds (ps := ["history", "key", "version"]) fun _ _ _ _ _ _ us hl => match us, hl with | [_, _, _], _ => rfl
  have F_value_is_true := fun_mk (st := s_value_is_true) l_value_is_true c_value_is_true k_value_is_true
  have v_value_is_true := F_value_is_true.binds (ps := ["history", "piece"]) fun _ _ _ _ _ _ us hl => match us, hl with | [_, _], _ => rfl
  have F_is_true := fun_mk (st := s_is_true) l_is_true c_is_true k_is_true
  have v_is_true := F_is_true.binds (ps := ["shelf", "history", "piece"]) fun _ _ _ _ _ _ us hl => match us, hl with | [_, _, _], _ => rfl
  have F_differ := fun_mk (st := s_differ) l_differ c_differ k_differ
  have v_differ := F_differ.binds (ps := ["told"]) fun _ _ _ _ _ _ us hl => match us, hl with | [_], _ => rfl
  have F_tells_two_values := fun_mk (st := s_tells_two_values) l_tells_two_values c_tells_two_values k_tells_two_values
  have v_tells_two_values := F_tells_two_values.binds (ps := ["news"]) fun _ _ _ _ _ _ us hl => match us, hl with | [_], _ => rfl
  have F_agrees := fun_mk (st := s_agrees) l_agrees c_agrees k_agrees
  have v_agrees := F_agrees.binds (ps := ["shelf", "history", "news"]) fun _ _ _ _ _ _ us hl => match us, hl with | [_, _, _], _ => rfl
  have F_value_in := fun_mk (st := s_value_in) l_value_in c_value_in k_value_in
  have v_value_in := F_value_in.binds (ps := ["history", "key", "version"]) fun _ _ _ _ _ _ us hl => match us, hl with | [_, _, _], _ => rfl
  have F_law := fun_mk (st := s_law) l_law c_law k_law
  have v_law := F_law.binds (ps := ["script"]) fun _ _ _ _ _ _ us hl => match us, hl with | [_], _ => rfl
  exact ⟨_, fun s v => .of_eq rfl, fun base _ _ => ok_law { a__law_head := a__law_head, d__law_head := _, F__law_head := F__law_head, m__law_head := PySem.W.mg_of X G n__law_head, v__law_head := v__law_head, k__law_head := k__law_head, a__law_holds := a__law_holds, d__law_holds := _, F__law_holds := F__law_holds, m__law_holds := PySem.W.mg_of X G n__law_holds, v__law_holds := v__law_holds, k__law_holds := k__law_holds, a__law_keys := a__law_keys, d__law_keys := _, F__law_keys := F__law_keys, m__law_keys := PySem.W.mg_of X G n__law_keys, v__law_keys := v__law_keys, k__law_keys := k__law_keys, a__law_values_clash := a__law_values_clash, d__law_values_clash := _, F__law_values_clash := F__law_values_clash, m__law_values_clash := PySem.W.mg_of X G n__law_values_clash, v__law_values_clash := v__law_values_clash, k__law_values_clash := k__law_values_clash, a__law_written := a__law_written, d__law_written := _, F__law_written := F__law_written, m__law_written := PySem.W.mg_of X G n__law_written, v__law_written := v__law_written, k__law_written := k__law_written, a__law_agrees := a__law_agrees, d__law_agrees := _, F__law_agrees := F__law_agrees, m__law_agrees := PySem.W.mg_of X G n__law_agrees, v__law_agrees := v__law_agrees, k__law_agrees := k__law_agrees, a__law_commits := a__law_commits, d__law_commits := _, F__law_commits := F__law_commits, m__law_commits := PySem.W.mg_of X G n__law_commits, v__law_commits := v__law_commits, k__law_commits := k__law_commits, a__law_next := a__law_next, d__law_next := _, F__law_next := F__law_next, m__law_next := PySem.W.mg_of X G n__law_next, v__law_next := v__law_next, k__law_next := k__law_next, a__law_bent := a__law_bent, d__law_bent := _, F__law_bent := F__law_bent, m__law_bent := PySem.W.mg_of X G n__law_bent, v__law_bent := v__law_bent, k__law_bent := k__law_bent, a__law_draw := a__law_draw, d__law_draw := _, F__law_draw := F__law_draw, m__law_draw := PySem.W.mg_of X G n__law_draw, v__law_draw := v__law_draw, k__law_draw := k__law_draw, a__law_history := a__law_history, d__law_history := _, F__law_history := F__law_history, m__law_history := PySem.W.mg_of X G n__law_history, v__law_history := v__law_history, k__law_history := k__law_history, a__law_same := a__law_same, d__law_same := _, F__law_same := F__law_same, m__law_same := PySem.W.mg_of X G n__law_same, v__law_same := v__law_same, k__law_same := k__law_same, a__law_shelf := a__law_shelf, d__law_shelf := _, F__law_shelf := F__law_shelf, m__law_shelf := PySem.W.mg_of X G n__law_shelf, v__law_shelf := v__law_shelf, k__law_shelf := k__law_shelf, a__law_told := a__law_told, d__law_told := _, F__law_told := F__law_told, m__law_told := PySem.W.mg_of X G n__law_told, v__law_told := v__law_told, k__law_told := k__law_told, a__law_true := a__law_true, d__law_true := _, F__law_true := F__law_true, m__law_true := PySem.W.mg_of X G n__law_true, v__law_true := v__law_true, k__law_true := k__law_true, a_version_of := a_version_of, d_version_of := _, F_version_of := F_version_of, m_version_of := PySem.W.mg_of X G n_version_of, v_version_of := v_version_of, k_version_of := k_version_of, a_head_of := a_head_of, d_head_of := _, F_head_of := F_head_of, m_head_of := PySem.W.mg_of X G n_head_of, v_head_of := v_head_of, k_head_of := k_head_of, a_is_commit := a_is_commit, d_is_commit := _, F_is_commit := F_is_commit, m_is_commit := PySem.W.mg_of X G n_is_commit, v_is_commit := v_is_commit, k_is_commit := k_is_commit, a_keys_written := a_keys_written, d_keys_written := _, F_keys_written := F_keys_written, m_keys_written := PySem.W.mg_of X G n_keys_written, v_keys_written := v_keys_written, k_keys_written := k_keys_written, a_commit_is_true := a_commit_is_true, d_commit_is_true := _, F_commit_is_true := F_commit_is_true, m_commit_is_true := PySem.W.mg_of X G n_commit_is_true, v_commit_is_true := v_commit_is_true, k_commit_is_true := k_commit_is_true, a_shelf_keys := a_shelf_keys, d_shelf_keys := _, F_shelf_keys := F_shelf_keys, m_shelf_keys := PySem.W.mg_of X G n_shelf_keys, v_shelf_keys := v_shelf_keys, k_shelf_keys := k_shelf_keys, a_values_written := a_values_written, d_values_written := _, F_values_written := F_values_written, m_values_written := PySem.W.mg_of X G n_values_written, v_values_written := v_values_written, k_values_written := k_values_written, a_times_in := a_times_in, d_times_in := _, F_times_in := F_times_in, m_times_in := PySem.W.mg_of X G n_times_in, v_times_in := v_times_in, k_times_in := k_times_in, a_value_is_true := a_value_is_true, d_value_is_true := _, F_value_is_true := F_value_is_true, m_value_is_true := PySem.W.mg_of X G n_value_is_true, v_value_is_true := v_value_is_true, k_value_is_true := k_value_is_true, a_is_true := a_is_true, d_is_true := _, F_is_true := F_is_true, m_is_true := PySem.W.mg_of X G n_is_true, v_is_true := v_is_true, k_is_true := k_is_true, a_differ := a_differ, d_differ := _, F_differ := F_differ, m_differ := PySem.W.mg_of X G n_differ, v_differ := v_differ, k_differ := k_differ, a_tells_two_values := a_tells_two_values, d_tells_two_values := _, F_tells_two_values := F_tells_two_values, m_tells_two_values := PySem.W.mg_of X G n_tells_two_values, v_tells_two_values := v_tells_two_values, k_tells_two_values := k_tells_two_values, a_agrees := a_agrees, d_agrees := _, F_agrees := F_agrees, m_agrees := PySem.W.mg_of X G n_agrees, v_agrees := v_agrees, k_agrees := k_agrees, a_value_in := a_value_in, d_value_in := _, F_value_in := F_value_in, m_value_in := PySem.W.mg_of X G n_value_in, v_value_in := v_value_in, k_value_in := k_value_in, a_law := _, d_law := _, F_law := F_law, m_law := PySem.W.mg_of X G n_law, v_law := v_law, k_law := k_law, b_abs := PySem.W.mg_none_of X G z_abs, b_all := PySem.W.mg_none_of X G z_all, b_bool := PySem.W.mg_none_of X G z_bool, b_int := PySem.W.mg_none_of X G z_int, b_isinstance := PySem.W.mg_none_of X G z_isinstance, b_len := PySem.W.mg_none_of X G z_len, b_list := PySem.W.mg_none_of X G z_list, b_max := PySem.W.mg_none_of X G z_max, b_range := PySem.W.mg_none_of X G z_range, b_set := PySem.W.mg_none_of X G z_set, b_sorted := PySem.W.mg_none_of X G z_sorted, b_str := PySem.W.mg_none_of X G z_str, b_tuple := PySem.W.mg_none_of X G z_tuple }⟩
theorem walk {l : PySem.W.OpenLaw} {q : Program} {loose : List Str} {XP : (Str → Option Value) → Heap → Prop} {YP : World → Heap → Prop} {d : DefRec} {K : Params → PySem.W.Frag} (hn : l.most = some 63) (hdf : d.params.defaults = [])
    (hY : ∀ (w : World) (h : Heap), YP w h → (K w.params).In h)
    (F : ∀ (w : World) (mg : Str → Option Value) (fa : Addr) (h : Heap), (K w.params).In h → h.Ns mainGlobals mg → mg d.name = some (.ref fa) →
      ∃ fd : FuncData, (∀ (s : Shared) (u : Value), BindsTo s fd ⟨[u], []⟩ [("script", u)]) ∧ ∀ base : Heap, (K w.params).In base → base.Ns mainGlobals mg → FnOk l.prog w (K w.params) mg base CX0 13 fa fd ["script"] (spD (K w.params) C_law)) :
    PySem.W.WalkO q loose XP YP l.row.toRowW d [] (fun f vs => PySem.call f vs) :=
  L2.walk_of (n := 63) (k := 13) (x := "script") (CX := fun _ => CX0) (sp := fun w => spD (K w.params) C_law) hn (by decide) hdf ⟨rfl, by decide, by decide⟩ hY F (fun _ H a ns hl _ hS => sp_law H a ns hl hS) fun _ _ _ _ _ z => z
end K43
open PySem PySem.W PyProof.Rows
set_option maxRecDepth 100000 in
set_option maxHeartbeats 0 in
theorem PySem.Challenge.cw_suresnap_k43_histories_are_asked_holds : PySem.Challenge.rw_suresnap_k43_histories_are_asked.Holds := by
  w_on; o_law; k_head; (case hw => w_witness2)
  k_fill
  refine K43.walk (l := PySem.Challenge.rw_suresnap_k43_histories_are_asked) rfl rfl (fun w h Y => PySem.W.kIn_of Y) ?F
  case F =>
    intro w mg fa h KX G hmg
    refine' K43.all_mk KX G hmg ?n__law_head ?l__law_head ?c__law_head ?k__law_head ?n__law_holds ?l__law_holds ?c__law_holds ?k__law_holds ?n__law_keys ?l__law_keys ?c__law_keys ?k__law_keys ?n__law_values_clash ?l__law_values_clash ?c__law_values_clash ?k__law_values_clash ?n__law_written ?l__law_written ?c__law_written ?k__law_written ?n__law_agrees ?l__law_agrees ?c__law_agrees ?k__law_agrees ?n__law_commits ?l__law_commits ?c__law_commits ?k__law_commits ?n__law_next ?l__law_next ?c__law_next ?k__law_next ?n__law_bent ?l__law_bent ?c__law_bent ?k__law_bent ?n__law_draw ?l__law_draw ?c__law_draw ?k__law_draw ?n__law_history ?l__law_history ?c__law_history ?k__law_history ?n__law_same ?l__law_same ?c__law_same ?k__law_same ?n__law_shelf ?l__law_shelf ?c__law_shelf ?k__law_shelf ?n__law_told ?l__law_told ?c__law_told ?k__law_told ?n__law_true ?l__law_true ?c__law_true ?k__law_true ?n_version_of ?l_version_of ?c_version_of ?k_version_of ?n_head_of ?l_head_of ?c_head_of ?k_head_of ?n_is_commit ?l_is_commit ?c_is_commit ?k_is_commit ?n_keys_written ?l_keys_written ?c_keys_written ?k_keys_written ?n_commit_is_true ?l_commit_is_true ?c_commit_is_true ?k_commit_is_true ?n_shelf_keys ?l_shelf_keys ?c_shelf_keys ?k_shelf_keys ?n_values_written ?l_values_written ?c_values_written ?k_values_written ?n_times_in ?l_times_in ?c_times_in ?k_times_in ?n_value_is_true ?l_value_is_true ?c_value_is_true ?k_value_is_true ?n_is_true ?l_is_true ?c_is_true ?k_is_true ?n_differ ?l_differ ?c_differ ?k_differ ?n_tells_two_values ?l_tells_two_values ?c_tells_two_values ?k_tells_two_values ?n_agrees ?l_agrees ?c_agrees ?k_agrees ?n_value_in ?l_value_in ?c_value_in ?k_value_in ?n_law ?l_law ?c_law ?k_law ?z_abs ?z_all ?z_bool ?z_int ?z_isinstance ?z_len ?z_list ?z_max ?z_range ?z_set ?z_sorted ?z_str ?z_tuple
    (case n__law_head => k_is)
    (case l__law_head => k_is)
    (case c__law_head => k_is)
    (case k__law_head => k_is)
    (case n__law_holds => k_is)
    (case l__law_holds => k_is)
    (case c__law_holds => k_is)
    (case k__law_holds => k_is)
    (case n__law_keys => k_is)
    (case l__law_keys => k_is)
    (case c__law_keys => k_is)
    (case k__law_keys => k_is)
    (case n__law_values_clash => k_is)
    (case l__law_values_clash => k_is)
    (case c__law_values_clash => k_is)
    (case k__law_values_clash => k_is)
    (case n__law_written => k_is)
    (case l__law_written => k_is)
    (case c__law_written => k_is)
    (case k__law_written => k_is)
    (case n__law_agrees => k_is)
    (case l__law_agrees => k_is)
    (case c__law_agrees => k_is)
    (case k__law_agrees => k_is)
    (case n__law_commits => k_is)
    (case l__law_commits => k_is)
    (case c__law_commits => k_is)
    (case k__law_commits => k_is)
    (case n__law_next => k_is)
    (case l__law_next => k_is)
    (case c__law_next => k_is)
    (case k__law_next => k_is)
    (case n__law_bent => k_is)
    (case l__law_bent => k_is)
    (case c__law_bent => k_is)
    (case k__law_bent => k_is)
    (case n__law_draw => k_is)
    (case l__law_draw => k_is)
    (case c__law_draw => k_is)
    (case k__law_draw => k_is)
    (case n__law_history => k_is)
    (case l__law_history => k_is)
    (case c__law_history => k_is)
    (case k__law_history => k_is)
    (case n__law_same => k_is)
    (case l__law_same => k_is)
    (case c__law_same => k_is)
    (case k__law_same => k_is)
    (case n__law_shelf => k_is)
    (case l__law_shelf => k_is)
    (case c__law_shelf => k_is)
    (case k__law_shelf => k_is)
    (case n__law_told => k_is)
    (case l__law_told => k_is)
    (case c__law_told => k_is)
    (case k__law_told => k_is)
    (case n__law_true => k_is)
    (case l__law_true => k_is)
    (case c__law_true => k_is)
    (case k__law_true => k_is)
    (case n_version_of => k_is)
    (case l_version_of => k_is)
    (case c_version_of => k_is)
    (case k_version_of => k_is)
    (case n_head_of => k_is)
    (case l_head_of => k_is)
    (case c_head_of => k_is)
    (case k_head_of => k_is)
    (case n_is_commit => k_is)
    (case l_is_commit => k_is)
    (case c_is_commit => k_is)
    (case k_is_commit => k_is)
    (case n_keys_written => k_is)
    (case l_keys_written => k_is)
    (case c_keys_written => k_is)
    (case k_keys_written => k_is)
    (case n_commit_is_true => k_is)
    (case l_commit_is_true => k_is)
    (case c_commit_is_true => k_is)
    (case k_commit_is_true => k_is)
    (case n_shelf_keys => k_is)
    (case l_shelf_keys => k_is)
    (case c_shelf_keys => k_is)
    (case k_shelf_keys => k_is)
    (case n_values_written => k_is)
    (case l_values_written => k_is)
    (case c_values_written => k_is)
    (case k_values_written => k_is)
    (case n_times_in => k_is)
    (case l_times_in => k_is)
    (case c_times_in => k_is)
    (case k_times_in => k_is)
    (case n_value_is_true => k_is)
    (case l_value_is_true => k_is)
    (case c_value_is_true => k_is)
    (case k_value_is_true => k_is)
    (case n_is_true => k_is)
    (case l_is_true => k_is)
    (case c_is_true => k_is)
    (case k_is_true => k_is)
    (case n_differ => k_is)
    (case l_differ => k_is)
    (case c_differ => k_is)
    (case k_differ => k_is)
    (case n_tells_two_values => k_is)
    (case l_tells_two_values => k_is)
    (case c_tells_two_values => k_is)
    (case k_tells_two_values => k_is)
    (case n_agrees => k_is)
    (case l_agrees => k_is)
    (case c_agrees => k_is)
    (case k_agrees => k_is)
    (case n_value_in => k_is)
    (case l_value_in => k_is)
    (case c_value_in => k_is)
    (case k_value_in => k_is)
    (case n_law => k_is)
    (case l_law => k_is)
    (case c_law => k_is)
    (case k_law => k_is)
    (case z_abs => k_is)
    (case z_all => k_is)
    (case z_bool => k_is)
    (case z_int => k_is)
    (case z_isinstance => k_is)
    (case z_len => k_is)
    (case z_list => k_is)
    (case z_max => k_is)
    (case z_range => k_is)
    (case z_set => k_is)
    (case z_sorted => k_is)
    (case z_str => k_is)
    (case z_tuple => k_is)
#print axioms PySem.Challenge.cw_suresnap_k43_histories_are_asked_holds
