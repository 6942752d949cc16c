import PyProof.Rows.All
import Wide.All
import OpenK.AllK
import Wide.FinOn
import HandS.ForMost
import HandS.ForExc
import HandS.TupAny
import HandS.IsInst
import HandS.Flow
import KE.DataMinMax
import PyProof.DictMoreH
import HandS.SortKw
import HandS.SetKeys
import HandS.SetTxt0
import HandS.SetFor
import HandS.Strs
import HandS.More
import HandS.Style
import HandS.FStr
import HandS.Text
import HandS.StrMore
import HandS.RaiseMore
import PyProof.StrOps2
import HandS.Iter
import KE.KIntText
import PyProof.Rows.StrCut
import PyProof.StrLawsTight
import PyProof.Rows.StrSplitCount
import PySem.Challenge.RW_suresnap_k41_news_is_read_and_printed
set_option Elab.async false
set_option linter.all false
set_option maxRecDepth 100000
set_option maxHeartbeats 4000000
-- part DL1
section
/-! A layer of plain data over the hand layer: values as data (D), mutable objects by address (MO, Mu), readings as wishes about data. -/
namespace DL
open PySem L2

/-- plain data; ptr: an object that changes, by its address; scr: a list of ints that is only read -/
inductive D where
  | non | bl (b : Bool) | int (i : Int) | str (s : Str) | tup (ds : List D) | lst (ds : List D) | ptr (a : Addr) | scr (ns : List Int) | ty (n : String)
/-- an object that changes: a list, an instance, a dict with tuple keys, a dict, a drawer of numbers -/
inductive MO where
  | lst (ds : List D) | ins (C : Addr) (fs : List (Str × D)) | dT (kvs : List (List Key × D)) | dK (kvs : List (Key × D)) | draw
abbrev Mu := Addr → Option MO
abbrev Env := List (Option D)
def Mu.put (μ : Mu) (a : Addr) (o : MO) : Mu := fun b => if b = a then some o else μ b
def Mu.del (μ : Mu) (a : Addr) : Mu := fun b => if b = a then none else μ b
theorem Mu.put_same {μ : Mu} {a : Addr} {o : MO} : μ.put a o a = some o := by unfold Mu.put; rw [if_pos rfl]
theorem Mu.put_ne {μ : Mu} {a b : Addr} {o : MO} (h : b ≠ a) : μ.put a o b = μ b := by unfold Mu.put; rw [if_neg h]
theorem Mu.put_put {μ : Mu} {a : Addr} {o u : MO} : (μ.put a o).put a u = μ.put a u := by funext b; unfold Mu.put; split <;> rfl
theorem Mu.put_del {μ : Mu} {a : Addr} {o : MO} (h : μ a = none) : (μ.put a o).del a = μ := by
  funext b; unfold Mu.put Mu.del; by_cases e : b = a
  · subst e; simp [h]
  · simp [e]
theorem Mu.ne_of {μ : Mu} {a b : Addr} {o : MO} (h : μ a = some o) (h' : μ b = none) : a ≠ b := by intro e; subst e; rw [h] at h'; cases h'

/-- the heap without what changes -/
def hide (H : Hp) (μ : Mu) : Hp := fun a => match μ a with | some _ => none | none => H a
theorem hide_some {H : Hp} {μ : Mu} {a : Addr} {o : HO} : hide H μ a = some o ↔ μ a = none ∧ H a = some o := by
  unfold hide; cases h : μ a <;> simp
theorem hide_in {H : Hp} {μ : Mu} {a : Addr} {o : HO} (h : hide H μ a = some o) : H a = some o := (hide_some.mp h).2

/-- a text as the model lays it -/
def SOk (x : Str) : Prop := x.length ≤ sizeLine ∧ PyData.strOk x = true
instance (x : Str) : Decidable (SOk x) := by unfold SOk; infer_instance
mutual
inductive Rp (K : PySem.W.Frag) (G : Hp) : V → D → Prop
  | non : Rp K G .non .non
  | bl (b : Bool) : Rp K G (.bl b) (.bl b)
  | int (i : Int) : Rp K G (.int i) (.int i)
  | str (x : Str) : SOk x → Rp K G (.str x) (.str x)
  | tup {a : Addr} {xs : List V} {ds : List D} : G a = some (.tup xs) → RpAll K G xs ds → ds.length ≤ sizeLine → Rp K G (.ref a) (.tup ds)
  | lst {a : Addr} {xs : List V} {ds : List D} : G a = some (.lst xs) → RpAll K G xs ds → ds.length ≤ sizeLine → Rp K G (.ref a) (.lst ds)
  | ptr (a : Addr) : Rp K G (.ref a) (.ptr a)
  | scr {a : Addr} {ns : List Int} : SqL K G a (ns.map V.int) → Rp K G (.ref a) (.scr ns)
  | ty (n : String) : Rp K G (.ty n) (.ty n)
inductive RpAll (K : PySem.W.Frag) (G : Hp) : List V → List D → Prop
  | nil : RpAll K G [] []
  | cons {v : V} {vs : List V} {d : D} {ds : List D} : Rp K G v d → RpAll K G vs ds → RpAll K G (v :: vs) (d :: ds)
end
section
variable {K : PySem.W.Frag} {G G' : Hp}
mutual
theorem Rp.mono (e : Same G G') : ∀ {v : V} {d : D}, Rp K G v d → Rp K G' v d
  | _, _, .non => .non
  | _, _, .bl b => .bl b
  | _, _, .int i => .int i
  | _, _, .str x h => .str x h
  | _, _, .tup h r z => .tup (e _ _ h) (RpAll.mono e r) z
  | _, _, .lst h r z => .lst (e _ _ h) (RpAll.mono e r) z
  | _, _, .ptr a => .ptr a
  | _, _, .scr h => .scr (e.seq h)
  | _, _, .ty n => .ty n
theorem RpAll.mono (e : Same G G') : ∀ {vs : List V} {ds : List D}, RpAll K G vs ds → RpAll K G' vs ds
  | _, _, .nil => .nil
  | _, _, .cons r t => .cons (Rp.mono e r) (RpAll.mono e t)
end
theorem RpAll.length : ∀ {vs : List V} {ds : List D}, RpAll K G vs ds → vs.length = ds.length
  | _, _, .nil => rfl
  | _, _, .cons _ t => by simp [RpAll.length t]
theorem RpAll.get : ∀ {vs : List V} {ds : List D} {i : Nat} {d : D}, RpAll K G vs ds → ds[i]? = some d → ∃ v, vs[i]? = some v ∧ Rp K G v d
  | _, _, _, _, .nil, e => by simp at e
  | _, _, 0, _, .cons r _, e => by simp at e; subst e; exact ⟨_, rfl, r⟩
  | _, _, i + 1, _, .cons _ t, e => by
    obtain ⟨v, h1, h2⟩ := RpAll.get (i := i) t (by simpa using e)
    exact ⟨v, by simpa using h1, h2⟩
theorem RpAll.getV : ∀ {vs : List V} {ds : List D} {i : Nat} {v : V}, RpAll K G vs ds → vs[i]? = some v → ∃ d, ds[i]? = some d ∧ Rp K G v d
  | _, _, _, _, .nil, e => by simp at e
  | _, _, 0, _, .cons r _, e => by simp at e; subst e; exact ⟨_, rfl, r⟩
  | _, _, i + 1, _, .cons _ t, e => by
    obtain ⟨v, h1, h2⟩ := RpAll.getV (i := i) t (by simpa using e)
    exact ⟨v, by simpa using h1, h2⟩
theorem RpAll.append : ∀ {vs ws : List V} {ds es : List D}, RpAll K G vs ds → RpAll K G ws es → RpAll K G (vs ++ ws) (ds ++ es)
  | _, _, _, _, .nil, s => s
  | _, _, _, _, .cons r t, s => .cons r (RpAll.append t s)
theorem RpAll.take : ∀ {vs : List V} {ds : List D} (n : Nat), RpAll K G vs ds → RpAll K G (vs.take n) (ds.take n)
  | _, _, 0, _ => .nil
  | _, _, _ + 1, .nil => .nil
  | _, _, n + 1, .cons r t => .cons r (RpAll.take n t)
theorem RpAll.drop : ∀ {vs : List V} {ds : List D} (n : Nat), RpAll K G vs ds → RpAll K G (vs.drop n) (ds.drop n)
  | _, _, 0, r => r
  | _, _, _ + 1, .nil => .nil
  | _, _, n + 1, .cons _ t => RpAll.drop n t
theorem RpAll.set {x : V} {u : D} (r : Rp K G x u) : ∀ {vs : List V} {ds : List D} (i : Nat), RpAll K G vs ds → RpAll K G (vs.set i x) (ds.set i u)
  | _, _, _, .nil => .nil
  | _, _, 0, .cons _ t => .cons r t
  | _, _, i + 1, .cons q t => .cons q (RpAll.set r i t)
end

/-- what stands at an address that changes -/
def MOk (K : PySem.W.Frag) (G : Hp) (o : Option HO) : MO → Prop
  | .lst ds => ∃ xs, o = some (.lst xs) ∧ RpAll K G xs ds ∧ ds.length ≤ sizeLine
  | .ins C fs => ∃ dx gs, o = some (.ins C dx gs) ∧ Paired (fun (p : Str × V) (q : Str × D) => p.1 = q.1 ∧ Rp K G p.2 q.2) gs fs
  | .dT kvs => ∃ gs, o = some (.dT gs) ∧ Paired (fun (p : List Key × V) (q : List Key × D) => p.1 = q.1 ∧ Rp K G p.2 q.2) gs kvs
  | .dK kvs => ∃ gs, o = some (.dK gs) ∧ Paired (fun (p : Key × V) (q : Key × D) => p.1 = q.1 ∧ Rp K G p.2 q.2) gs kvs
  | .draw => ∃ (a : Addr) (ns : List Int) (i j k : Int), o = some (.lst [.ref a, .int i, .int j, .int k]) ∧ G a = some (.lst (ns.map V.int)) ∧ ns.length ≤ 63 ∧ 0 ≤ i ∧ 0 ≤ j ∧ 0 ≤ k ∧ k < 2147483647
theorem MOk.mono {K : PySem.W.Frag} {G G' : Hp} (e : Same G G') {o : Option HO} : ∀ {m : MO}, MOk K G o m → MOk K G' o m
  | .lst ds, ⟨xs, h1, h2, h3⟩ => ⟨xs, h1, h2.mono e, h3⟩
  | .ins C fs, ⟨dx, gs, h1, h2⟩ => ⟨dx, gs, h1, Paired.mapP h2 fun _ _ z => ⟨z.1, z.2.mono e⟩⟩
  | .dT fs, ⟨gs, h1, h2⟩ => ⟨gs, h1, Paired.mapP h2 fun _ _ z => ⟨z.1, z.2.mono e⟩⟩
  | .dK fs, ⟨gs, h1, h2⟩ => ⟨gs, h1, Paired.mapP h2 fun _ _ z => ⟨z.1, z.2.mono e⟩⟩
  | .draw, ⟨a, ns, i, j, k, h1, h2, h3⟩ => ⟨a, ns, i, j, k, h1, e _ _ h2, h3⟩
theorem MOk.there {K : PySem.W.Frag} {G : Hp} {o : Option HO} : ∀ {m : MO}, MOk K G o m → ∃ u, o = some u
  | .lst ds, ⟨xs, h1, _⟩ => ⟨_, h1⟩
  | .ins C fs, ⟨dx, gs, h1, _⟩ => ⟨_, h1⟩
  | .dT fs, ⟨gs, h1, _⟩ => ⟨_, h1⟩
  | .dK fs, ⟨gs, h1, _⟩ => ⟨_, h1⟩
  | .draw, ⟨a, ns, i, j, k, h1, _⟩ => ⟨_, h1⟩
def Wd (K : PySem.W.Frag) (H : Hp) (μ : Mu) : Prop := ∀ a o, μ a = some o → MOk K (hide H μ) (H a) o
theorem Wd.free {K : PySem.W.Frag} {H : Hp} {μ : Mu} (w : Wd K H μ) {a : Addr} (h : H a = none) : μ a = none := by
  cases q : μ a with
  | none => rfl
  | some o =>
    obtain ⟨u, e⟩ := (w a o q).there
    rw [h] at e; cases e
/-- what holds behind a step: what does not change stands as it stood -/
structure Nx (K : PySem.W.Frag) (H : Hp) (μ : Mu) (H' : Hp) (μ' : Mu) : Prop where
  ext : Same (hide H μ) (hide H' μ')
  wd : Wd K H' μ'
theorem Nx.trans {K : PySem.W.Frag} {H H1 H2 : Hp} {μ μ1 μ2 : Mu} (a : Nx K H μ H1 μ1) (b : Nx K H1 μ1 H2 μ2) : Nx K H μ H2 μ2 := ⟨a.ext.trans b.ext, b.wd⟩
theorem Nx.refl {K : PySem.W.Frag} {H : Hp} {μ : Mu} (w : Wd K H μ) : Nx K H μ H μ := ⟨Same.refl _, w⟩
def Renv (K : PySem.W.Frag) (G : Hp) (σ : L2.St) (ρ : Env) : Prop := σ.length = ρ.length ∧ ∀ (i : Nat) (d : D), ρ[i]? = some (some d) → ∃ v, σ[i]? = some (some v) ∧ Rp K G v d
structure StOk (K : PySem.W.Frag) (H : Hp) (μ : Mu) (σ : L2.St) (ρ : Env) : Prop where
  env : Renv K (hide H μ) σ ρ
  wd : Wd K H μ
theorem StOk.next {K : PySem.W.Frag} {H H' : Hp} {μ μ' : Mu} {σ : L2.St} {ρ : Env} (s : StOk K H μ σ ρ) (n : Nx K H μ H' μ') : StOk K H' μ' σ ρ :=
  ⟨⟨s.env.1, fun i d e => let ⟨v, h1, h2⟩ := s.env.2 i d e; ⟨v, h1, h2.mono n.ext⟩⟩, n.wd⟩
theorem Renv.set {K : PySem.W.Frag} {G : Hp} {σ : L2.St} {ρ : Env} {v : V} {d : D} (r : Renv K G σ ρ) (q : Rp K G v d) (i : Nat) : Renv K G (σ.set i (some v)) (ρ.set i (some d)) := by
  refine ⟨by rw [List.length_set, List.length_set]; exact r.1, fun j e h => ?_⟩
  by_cases hj : i = j
  · subst hj
    by_cases hl : i < ρ.length
    · rw [List.getElem?_set_self hl] at h
      cases h
      exact ⟨v, by rw [List.getElem?_set_self (by rw [r.1]; exact hl)], q⟩
    · rw [List.getElem?_eq_none (by rw [List.length_set]; omega)] at h; cases h
  · rw [List.getElem?_set_ne hj] at h ⊢
    exact r.2 j e h
theorem StOk.set {K : PySem.W.Frag} {H : Hp} {μ : Mu} {σ : L2.St} {ρ : Env} {v : V} {d : D} (s : StOk K H μ σ ρ) (q : Rp K (hide H μ) v d) (i : Nat) : StOk K H μ (σ.set i (some v)) (ρ.set i (some d)) := ⟨s.env.set q i, s.wd⟩

/-! ### new things -/
theorem hide_upd {H : Hp} {μ : Mu} {p : Addr} {o : HO} (h : μ p = none) : hide (upd H p o) μ = upd (hide H μ) p o := by
  funext b; unfold hide upd
  by_cases e : b = p
  · subst e; simp [h]
  · simp [e]
theorem hide_put {H : Hp} {μ : Mu} {p : Addr} {o : HO} {m : MO} (h : μ p = none → H p = none) : hide (upd H p o) (μ.put p m) = hide H μ := by
  funext b; unfold hide upd Mu.put
  by_cases e : b = p
  · subst e
    cases q : μ b with
    | none => simp [h q]
    | some u => simp
  · simp [e]
/-- a new thing that does not change -/
theorem Nx.new {K : PySem.W.Frag} {H : Hp} {μ : Mu} {p : Addr} {o : HO} (w : Wd K H μ) (hp : H p = none) : Nx K H μ (upd H p o) μ := by
  have hm := w.free hp
  have ex : Same (hide H μ) (hide (upd H p o) μ) := by
    rw [hide_upd hm]
    intro b u hb
    rw [upd_ne (ne_of_none (hide_in hb) hp)]
    exact hb
  refine ⟨ex, fun a m h => ?_⟩
  have ne : a ≠ p := Mu.ne_of h hm
  rw [upd_ne ne]
  exact (w a m h).mono ex
theorem new_at {H : Hp} {μ : Mu} {p : Addr} {o : HO} (hm : μ p = none) : hide (upd H p o) μ p = some o := by rw [hide_upd hm]; exact upd_same
/-- a new thing that changes, or a change of it -/
theorem Nx.put {K : PySem.W.Frag} {H : Hp} {μ : Mu} {p : Addr} {o : HO} {m : MO} (w : Wd K H μ) (hp : μ p = none → H p = none) (hk : MOk K (hide H μ) (some o) m) : Nx K H μ (upd H p o) (μ.put p m) := by
  have e := hide_put (o := o) (m := m) hp
  refine ⟨by rw [e]; exact Same.refl _, fun a u h => ?_⟩
  rw [e]
  by_cases ea : a = p
  · subst ea
    rw [Mu.put_same] at h; cases h
    rw [upd_same]
    exact hk
  · rw [Mu.put_ne ea] at h
    rw [upd_ne ea]
    exact w a u h
/-- a list that changes no more -/
theorem Nx.frz {K : PySem.W.Frag} {H : Hp} {μ : Mu} {p : Addr} {ds : List D} (w : Wd K H μ) (hp : μ p = some (.lst ds)) : Nx K H μ H (μ.del p) ∧ Rp K (hide H (μ.del p)) (.ref p) (.lst ds) := by
  have ex : Same (hide H μ) (hide H (μ.del p)) := by
    intro b u hb
    obtain ⟨h1, h2⟩ := hide_some.mp hb
    refine hide_some.mpr ⟨?_, h2⟩
    unfold Mu.del
    split
    · rfl
    · exact h1
  refine ⟨⟨ex, fun a u h => ?_⟩, ?_⟩
  · have h' : μ a = some u := by
      unfold Mu.del at h
      split at h
      · cases h
      · exact h
    exact (w a u h').mono ex
  · obtain ⟨xs, e, r, z⟩ := w p _ hp
    exact .lst (hide_some.mpr ⟨by unfold Mu.del; rw [if_pos rfl], e⟩) (r.mono ex) z

/-! ### readings as wishes about data -/
section
variable {α β γ : Type}
abbrev TF (β : Type) := Env → Mu → (β → Mu → Prop) → Prop
def Lift (K : PySem.W.Frag) (R : Hp → α → β → Prop) (F : TF β) : L2.St → Hp → (α → Hp → Prop) → Prop := fun σ H Q =>
  ∃ (ρ : Env) (μ : Mu) (Qd : β → Mu → Prop), StOk K H μ σ ρ ∧ F ρ μ Qd ∧ ∀ d μ' v H', Qd d μ' → Nx K H μ H' μ' → R (hide H' μ') v d → Q v H'
theorem Lift.go {K : PySem.W.Frag} {R : Hp → α → β → Prop} {F : TF β} {σ : L2.St} {ρ : Env} {H : Hp} {μ : Mu} {G : β → Mu → Prop} {Q : α → Hp → Prop} (s : StOk K H μ σ ρ) (hf : F ρ μ G)
    (k : ∀ d μ' v H', G d μ' → StOk K H' μ' σ ρ → Nx K H μ H' μ' → R (hide H' μ') v d → Q v H') : Lift K R F σ H Q :=
  ⟨ρ, μ, G, s, hf, fun d μ' v H' g n r => k d μ' v H' g (s.next n) n r⟩
abbrev tD (K : PySem.W.Frag) (F : TF D) : TE := Lift K (fun G v d => Rp K G v d) F
def RB : Hp → Bool → Bool → Prop := fun _ b c => b = c
abbrev tDT (K : PySem.W.Frag) (F : TF Bool) : TT := Lift K RB F
abbrev tDA (K : PySem.W.Frag) (F : TF (List D)) : TA := Lift K (fun G vs ds => RpAll K G vs ds) F
abbrev tDO (K : PySem.W.Frag) (F : TF (Option Int)) : TO := Lift K (fun _ b c => b = c) F
end
abbrev DE (X : Cx) (e : Expr) (F : TF D) : Prop := PE X e (tD X.K F)
abbrev DT (X : Cx) (e : Expr) (F : TF Bool) : Prop := PT X e (tDT X.K F)
abbrev DW (X : Cx) (e : Expr) (F : TF Bool) : Prop := PW X e (tDT X.K F)
abbrev DA (X : Cx) (es : List Expr) (F : TF (List D)) : Prop := PA X es (tDA X.K F)
abbrev DO (X : Cx) (e : Option Expr) (F : TF (Option Int)) : Prop := PO X e (tDO X.K F)
section
variable {X : Cx}
theorem weakE {e : Expr} {t t' : TE} (h : PE X e t) (w : ∀ σ H Q, t' σ H Q → t σ H Q) : PE X e t' := ⟨fun pins s σ H Q I q => h.run pins s σ H Q I (w σ H Q q)⟩
theorem weakT {e : Expr} {t t' : TT} (h : PT X e t) (w : ∀ σ H Q, t' σ H Q → t σ H Q) : PT X e t' := ⟨fun pins s σ H Q I q => h.run pins s σ H Q I (w σ H Q q)⟩
theorem weakW {e : Expr} {t t' : TT} (h : PW X e t) (w : ∀ σ H Q, t' σ H Q → t σ H Q) : PW X e t' := ⟨fun wh pins s σ H Q I q => h.run wh pins s σ H Q I (w σ H Q q)⟩
theorem weakA {e : List Expr} {t t' : TA} (h : PA X e t) (w : ∀ σ H Q, t' σ H Q → t σ H Q) : PA X e t' := ⟨fun pos pins s σ H Q I q => h.run pos pins s σ H Q I (w σ H Q q)⟩
theorem weakO {e : Option Expr} {t t' : TO} (h : PO X e t) (w : ∀ σ H Q, t' σ H Q → t σ H Q) : PO X e t' := ⟨fun pins s σ H Q I q => h.run pins s σ H Q I (w σ H Q q)⟩
theorem weakS {e : Stmt} {t t' : TS} (h : PS X e t) (w : ∀ D σ H, t' D σ H → t D σ H) : PS X e t' := ⟨fun pins s σ H D I q => h.run pins s σ H D I (w D σ H q)⟩
theorem weakSs {e : List Stmt} {t t' : TS} (h : PSs X e t) (w : ∀ D σ H, t' D σ H → t D σ H) : PSs X e t' := ⟨fun pins s σ H D I q => h.run pins s σ H D I (w D σ H q)⟩
theorem weakI {tg e : Expr} {t t' : TI} (h : PI X tg e t) (w : ∀ σ H Q, t' σ H Q → t σ H Q) : PI X tg e t' := ⟨fun pins s σ H Q I q => h.run pins s σ H Q I (w σ H Q q)⟩
end

/-! ### names, constants -/
def dVar (i : Nat) : TF D := fun ρ μ Q => ∃ d, ρ[i]? = some (some d) ∧ Q d μ
def dC (d : D) : TF D := fun _ μ Q => Q d μ
section
variable {X : Cx} {pos : Pos}
theorem dv (i : Nat) {x : Str} (hN : X.N[i]? = some x := by rfl) (hv : Vis X.env.scope x := by first | exact Or.inl rfl | exact Or.inr (Or.inl rfl) | exact Or.inr (Or.inr rfl)) (hd : (x == ("__debug__" : Str)) = false := by decide)
    (hcd : (x == ("__classdict__" : Str)) = false := by decide) : DE X (.Name x pos) (dVar i) := by
  refine weakE (pe_var hN hv hd hcd) fun σ H Q ⟨ρ, μ, Qd, s, hf, k⟩ => ?_
  obtain ⟨d, e, q⟩ := hf
  obtain ⟨v, h1, h2⟩ := s.env.2 i d e
  exact ⟨v, h1, k d μ v H q (Nx.refl s.wd) h2⟩
theorem dC_of {e : Expr} {v : V} {d : D} (h : PE X e (tC v)) (r : ∀ G, Rp X.K G v d) : DE X e (dC d) := weakE h fun σ H Q ⟨ρ, μ, Qd, s, hf, k⟩ => k d μ v H hf (Nx.refl s.wd) (r _)
theorem de_int {i j} : DE X (.Constant (.int i) j pos) (dC (.int i)) := dC_of pe_int fun _ => .int i
theorem de_bl {b j} : DE X (.Constant (.bool b) j pos) (dC (.bl b)) := dC_of pe_bl fun _ => .bl b
theorem de_non {j} : DE X (.Constant .none j pos) (dC .non) := dC_of pe_non fun _ => .non
theorem de_str {x : Str} {j} (hz : SOk x := by decide +kernel) : DE X (.Constant (.str x) j pos) (dC (.str x)) := dC_of pe_str fun _ => .str x hz
theorem de_globS {x y : Str} {t : Tok} (hg : Gl X x) (hm : X.mg x = some (.str y t)) (hz : SOk y := by decide +kernel) (hd : (x == ("__debug__" : Str)) = false := by decide) : DE X (.Name x pos) (dC (.str y)) := dC_of (v := .str y) (pe_glob hg hm ⟨t, rfl⟩ hd) fun _ => .str y hz
theorem de_globI {x : Str} {i : Int} {t : Tok} (hg : Gl X x) (hm : X.mg x = some (.int i t)) (hd : (x == ("__debug__" : Str)) = false := by decide) : DE X (.Name x pos) (dC (.int i)) := dC_of (v := .int i) (pe_glob hg hm ⟨t, rfl⟩ hd) fun _ => .int i
/-- a built-in class as a value -/
theorem de_ty {x : Str} {n : String} (hg : Gl X x) (hm : X.mg x = none) (hv : bootBuiltins x = some (.type n)) (hn : x ≠ "__name__" := by decide) (hd : (x == ("__debug__" : Str)) = false := by decide) : DE X (.Name x pos) (dC (.ty n)) :=
  dC_of (v := .ty n) (pe_bltn hg hm hv rfl hn hd) fun _ => .ty n
end

/-! ### operators -/
section
variable {X : Cx} {pos : Pos} {a b : Expr} {Fa Fb : TF D}
abbrev F2 := Mu → D → D → (D → Prop) → Prop
def dOp (f : F2) (Fa Fb : TF D) : TF D := fun ρ μ Q => Fa ρ μ fun x μ1 => Fb ρ μ1 fun y μ2 => f μ2 x y fun z => Q z μ2
def OpD (K : PySem.W.Frag) (r : R2) (f : F2) : Prop := ∀ (x y : D) (vx vy : V) (H : Hp) (μ : Mu) (P : D → Prop) (Q : VK), Wd K H μ → Rp K (hide H μ) vx x → Rp K (hide H μ) vy y → f μ x y P →
  (∀ z vz H', P z → Nx K H μ H' μ → Rp K (hide H' μ) vz z → Q vz H') → r vx vy H Q
theorem op_go {σ : L2.St} {H : Hp} {Q : VK} {f : F2} {r : R2} {K : PySem.W.Frag} (ho : OpD K r f) (h : tD K (dOp f Fa Fb) σ H Q) : tOp r (tD K Fa) (tD K Fb) σ H Q := by
  obtain ⟨ρ, μ, Qd, s, hf, k⟩ := h
  refine Lift.go s hf fun x μ1 vx H1 g1 s1 n1 r1 => Lift.go s1 g1 fun y μ2 vy H2 g2 s2 n2 r2 => ?_
  exact ho x y vx vy H2 μ2 _ _ s2.wd (r1.mono n2.ext) r2 g2 fun z vz H3 p n3 r3 => k z μ2 vz H3 p ((n1.trans n2).trans n3) r3
theorem de_op {op : Operator} {r : R2} {f : F2} (hr : OpR X (binaryOp op) r) (ho : OpD X.K r f) (ha : DE X a Fa) (hb : DE X b Fb) : DE X (.BinOp a op b pos) (dOp f Fa Fb) := weakE (pe_op hr ha hb) fun _ _ _ h => op_go ho h
theorem de_cmp {op : CmpOp} {r : R2} {f : F2} (hr : OpR X (compareOp op) r) (ho : OpD X.K r f) (ha : DE X a Fa) (hb : DE X b Fb) (hm : behindInMarks op b = false) : DE X (.Compare a [op] [b] pos) (dOp f Fa Fb) := weakE (pe_cmpR hr ha hb hm) fun _ _ _ h => op_go ho h
theorem de_ix {r : R2} {f : F2} (hr : IxR X r) (ho : OpD X.K r f) (ha : DE X a Fa) (hb : DE X b Fb) (hs : PlainIx b) : DE X (.Subscript a b pos) (dOp f Fa Fb) := weakE (pe_ix hr ha hb hs) fun _ _ _ h => op_go ho h
/-- a test of a comparison -/
def dTest (F : TF D) : TF Bool := fun ρ μ Q => F ρ μ fun d μ1 => ∃ b, d = .bl b ∧ Q b μ1
theorem dt_cmp {op : CmpOp} {r : R2} {f : F2} (hr : OpR X (compareOp op) r) (ho : OpD X.K r f) (ha : DE X a Fa) (hb : DE X b Fb) (hm : behindInMarks op b = false) : DT X (.Compare a [op] [b] pos) (dTest (dOp f Fa Fb)) :=
  weakT (pt_cmpR hr ha hb hm) fun σ H Q ⟨ρ, μ, Qd, s, hf, k⟩ => op_go ho ⟨ρ, μ, _, s, hf, fun d μ1 v H1 ⟨c, e, g⟩ n r => by
    subst e; cases r; exact ⟨c, rfl, k c μ1 c H1 g n rfl⟩⟩
end

/-! ### and, or, not, if -/
section
variable {X : Cx} {pos : Pos} {a b e : Expr} {rest : List Expr} {Fa Fb : TF D} {A B : TF Bool}
def dAnd (A B : TF Bool) : TF Bool := fun ρ μ Q => A ρ μ fun c μ1 => if c = true then B ρ μ1 Q else Q false μ1
def dOr (A B : TF Bool) : TF Bool := fun ρ μ Q => A ρ μ fun c μ1 => if c = true then Q true μ1 else B ρ μ1 Q
def dNot (A : TF Bool) : TF Bool := fun ρ μ Q => A ρ μ fun c μ1 => Q (!c) μ1
theorem dw_and1 (ha : DT X a A) : DW X (.BoolOp .And [a] pos) A := pw_and1 ha
theorem dw_or1 (ha : DT X a A) : DW X (.BoolOp .Or [a] pos) A := pw_or1 ha
theorem dw_and (ha : DT X a A) (hb : DW X (.BoolOp .And (b :: rest) pos) B) : DW X (.BoolOp .And (a :: b :: rest) pos) (dAnd A B) := by
  refine weakW (pw_and ha hb) fun σ H Q ⟨ρ, μ, Qd, s, hf, k⟩ => Lift.go (F := A) (R := RB) s hf fun c μ1 v H1 g s1 n1 e1 => ?_
  cases (show v = c from e1)
  cases c with
  | true => exact Lift.go s1 g fun d μ2 w H2 g2 s2 n2 e2 => k d μ2 w H2 g2 (n1.trans n2) e2
  | false => exact k false μ1 false H1 g n1 rfl
theorem dw_or (ha : DT X a A) (hb : DW X (.BoolOp .Or (b :: rest) pos) B) : DW X (.BoolOp .Or (a :: b :: rest) pos) (dOr A B) := by
  refine weakW (pw_or ha hb) fun σ H Q ⟨ρ, μ, Qd, s, hf, k⟩ => Lift.go (F := A) (R := RB) s hf fun c μ1 v H1 g s1 n1 e1 => ?_
  cases (show v = c from e1)
  cases c with
  | true => exact k true μ1 true H1 g n1 rfl
  | false => exact Lift.go s1 g fun d μ2 w H2 g2 s2 n2 e2 => k d μ2 w H2 g2 (n1.trans n2) e2
theorem dw_pt (h : DW X e A) : DT X e A := h.pt
theorem dt_not (ha : DT X a A) : DT X (.UnaryOp .Not a pos) (dNot A) :=
  weakT (pt_not ha) fun σ H Q ⟨ρ, μ, Qd, s, hf, k⟩ => Lift.go (F := A) (R := RB) s hf fun c μ1 v H1 g s1 n1 e1 => by cases (show v = c from e1); exact k _ μ1 _ H1 g n1 rfl
/-- an expression that gives a truth value, as a test -/
theorem dt_val {F : TF D} (h : DE X e F) (he : ∀ whole, isTrue e X.env whole = (do let v ← whole; standAt e.pos; holding [v] (truthy v)) := by intro _; rfl) : DT X e (dTest F) :=
  weakT (pt_val h he) fun σ H Q ⟨ρ, μ, Qd, s, hf, k⟩ => Lift.go s hf fun d μ1 v H1 ⟨c, e, g⟩ s1 n1 r => by subst e; cases r; exact ⟨c, rfl, k c μ1 c H1 g n1 rfl⟩
/-- a test of any value by its truth -/
def truD : D → Option Bool
  | .non => some false
  | .bl b => some b
  | .int i => some (i != 0)
  | .str s => some (((s.length : Nat) : Int) != 0)
  | .tup ds => some (!ds.isEmpty)
  | .lst ds => some (!ds.isEmpty)
  | _ => none
def dTru (F : TF D) : TF Bool := fun ρ μ Q => F ρ μ fun d μ1 => ∃ b, truD d = some b ∧ Q b μ1
theorem RpAll.empty {K : PySem.W.Frag} {G : Hp} {vs : List V} {ds : List D} (r : RpAll K G vs ds) : vs.isEmpty = ds.isEmpty := by cases r <;> rfl
theorem truV_of {K : PySem.W.Frag} {H : Hp} {μ : Mu} {v : V} {d : D} {b : Bool} (r : Rp K (hide H μ) v d) (h : truD d = some b) : TruV K v H b := by
  cases r with
  | non => cases h; rfl
  | bl c => cases h; rfl
  | int i => cases h; rfl
  | str x hz => cases h; exact ⟨hz.1, rfl⟩
  | tup ha hr hz => cases h; exact .inr (.inl ⟨_, SqT.of (hide_in ha), by rw [hr.empty]⟩)
  | lst ha hr hz => cases h; exact .inl ⟨_, SqL.of (hide_in ha), by rw [hr.empty]⟩
  | ptr a => cases h
  | scr _ => cases h
  | ty _ => cases h
theorem dt_tru {F : TF D} (h : DE X e F) (he : ∀ whole, isTrue e X.env whole = (do let v ← whole; standAt e.pos; holding [v] (truthy v)) := by intro _; rfl) : DT X e (dTru F) :=
  weakT (pt_truth h he) fun σ H Q ⟨ρ, μ, Qd, s, hf, k⟩ => Lift.go s hf fun d μ1 v H1 ⟨c, e, g⟩ s1 n1 r => ⟨c, truV_of r e, k c μ1 c H1 g n1 rfl⟩
def dAndV (Fa Fb : TF D) : TF D := fun ρ μ Q => Fa ρ μ fun d μ1 => ∃ c, d = .bl c ∧ if c = true then Fb ρ μ1 Q else Q (.bl false) μ1
def dOrV (Fa Fb : TF D) : TF D := fun ρ μ Q => Fa ρ μ fun d μ1 => ∃ c, d = .bl c ∧ if c = true then Q (.bl true) μ1 else Fb ρ μ1 Q
def dNotV (Fa : TF D) : TF D := fun ρ μ Q => Fa ρ μ fun d μ1 => ∃ c, d = .bl c ∧ Q (.bl (!c)) μ1
theorem de_one {op} (h : DE X a Fa) : DE X (.BoolOp op [a] pos) Fa := pe_one h
theorem de_and (ha : DE X a Fa) (hb : DE X (.BoolOp .And (b :: rest) pos) Fb) : DE X (.BoolOp .And (a :: b :: rest) pos) (dAndV Fa Fb) := by
  refine weakE (pe_and ha hb) fun σ H Q ⟨ρ, μ, Qd, s, hf, k⟩ => Lift.go s hf fun d μ1 v H1 ⟨c, e, g⟩ s1 n1 r => ?_
  subst e; cases r
  refine ⟨c, rfl, ?_⟩
  cases c with
  | true => exact Lift.go s1 g fun d μ2 w H2 g2 s2 n2 r2 => k d μ2 w H2 g2 (n1.trans n2) r2
  | false => exact k _ μ1 _ H1 g n1 (.bl false)
theorem de_or (ha : DE X a Fa) (hb : DE X (.BoolOp .Or (b :: rest) pos) Fb) : DE X (.BoolOp .Or (a :: b :: rest) pos) (dOrV Fa Fb) := by
  refine weakE (pe_or ha hb) fun σ H Q ⟨ρ, μ, Qd, s, hf, k⟩ => Lift.go s hf fun d μ1 v H1 ⟨c, e, g⟩ s1 n1 r => ?_
  subst e; cases r
  refine ⟨c, rfl, ?_⟩
  cases c with
  | false => exact Lift.go s1 g fun d μ2 w H2 g2 s2 n2 r2 => k d μ2 w H2 g2 (n1.trans n2) r2
  | true => exact k _ μ1 _ H1 g n1 (.bl true)
theorem de_not (ha : DE X a Fa) : DE X (.UnaryOp .Not a pos) (dNotV Fa) := by
  refine weakE (pe_not ha) fun σ H Q ⟨ρ, μ, Qd, s, hf, k⟩ => Lift.go s hf fun d μ1 v H1 ⟨c, e, g⟩ s1 n1 r => ?_
  subst e; cases r
  exact ⟨c, rfl, k _ μ1 _ H1 g n1 (.bl _)⟩
def dIf (A : TF Bool) (Fa Fb : TF D) : TF D := fun ρ μ Q => A ρ μ fun c μ1 => if c = true then Fa ρ μ1 Q else Fb ρ μ1 Q
theorem de_if {c : Expr} (hc : DT X c A) (ha : DE X a Fa) (hb : DE X b Fb) : DE X (.IfExp c a b pos) (dIf A Fa Fb) := by
  refine weakE (pe_ifExp hc ha hb) fun σ H Q ⟨ρ, μ, Qd, s, hf, k⟩ => Lift.go (F := A) (R := RB) s hf fun c μ1 v H1 g s1 n1 e1 => ?_
  cases (show v = c from e1)
  cases c with
  | true => exact Lift.go s1 g fun d μ2 w H2 g2 s2 n2 r2 => k d μ2 w H2 g2 (n1.trans n2) r2
  | false => exact Lift.go s1 g fun d μ2 w H2 g2 s2 n2 r2 => k d μ2 w H2 g2 (n1.trans n2) r2
end

/-! ### arguments, displays -/
section
variable {X : Cx} {pos : Pos} {e : Expr} {es : List Expr} {F : TF D} {A : TF (List D)}
def aNil : TF (List D) := fun _ μ Q => Q [] μ
def aCons (F : TF D) (A : TF (List D)) : TF (List D) := fun ρ μ Q => F ρ μ fun d μ1 => A ρ μ1 fun ds μ2 => Q (d :: ds) μ2
theorem da_nil : DA X [] aNil := weakA pa_nil fun σ H Q ⟨ρ, μ, Qd, s, hf, k⟩ => k [] μ [] H hf (Nx.refl s.wd) .nil
theorem da_cons (h : DE X e F) (hr : DA X es A) (hs : starEach (e :: es) X.env = (false, eval e X.env) :: starEach es X.env := by rfl) : DA X (e :: es) (aCons F A) :=
  weakA (pa_cons h hr hs) fun σ H Q ⟨ρ, μ, Qd, s, hf, k⟩ => Lift.go s hf fun d μ1 v H1 g1 s1 n1 r1 => Lift.go s1 g1 fun ds μ2 vs H2 g2 s2 n2 r2 => k _ μ2 _ H2 g2 (n1.trans n2) (.cons (r1.mono n2.ext) r2)
def dTup (A : TF (List D)) : TF D := fun ρ μ Q => A ρ μ fun ds μ1 => ds.length ≤ sizeLine ∧ Q (.tup ds) μ1
def dLst (A : TF (List D)) : TF D := fun ρ μ Q => A ρ μ fun ds μ1 => ds.length ≤ sizeLine ∧ Q (.lst ds) μ1
/-- a list that will change -/
def dLstM (A : TF (List D)) : TF D := fun ρ μ Q => A ρ μ fun ds μ1 => ds.length ≤ sizeLine ∧ ∀ p, μ1 p = none → Q (.ptr p) (μ1.put p (.lst ds))
theorem de_tup {x1} (h : DA X es A) : DE X (.Tuple es x1 pos) (dTup A) :=
  weakE (pe_tup h) fun σ H Q ⟨ρ, μ, Qd, s, hf, k⟩ => Lift.go s hf fun ds μ1 vs H1 ⟨z, g⟩ s1 n1 r => ⟨by rw [r.length]; exact z, fun p hp => by
    have n2 : Nx X.K H1 μ1 (upd H1 p (.tup vs)) μ1 := Nx.new s1.wd hp
    exact k _ μ1 _ _ g (n1.trans n2) (.tup (new_at (s1.wd.free hp)) (r.mono n2.ext) z)⟩
theorem de_lst (h : DA X es A) : DE X (.List es pos) (dLst A) :=
  weakE (pe_lst h) fun σ H Q ⟨ρ, μ, Qd, s, hf, k⟩ => Lift.go s hf fun ds μ1 vs H1 ⟨z, g⟩ s1 n1 r => ⟨by rw [r.length]; exact z, fun p hp => by
    have n2 : Nx X.K H1 μ1 (upd H1 p (.lst vs)) μ1 := Nx.new s1.wd hp
    exact k _ μ1 _ _ g (n1.trans n2) (.lst (new_at (s1.wd.free hp)) (r.mono n2.ext) z)⟩
theorem de_lstM (h : DA X es A) : DE X (.List es pos) (dLstM A) :=
  weakE (pe_lst h) fun σ H Q ⟨ρ, μ, Qd, s, hf, k⟩ => Lift.go s hf fun ds μ1 vs H1 ⟨z, g⟩ s1 n1 r => ⟨by rw [r.length]; exact z, fun p hp => by
    have n2 : Nx X.K H1 μ1 (upd H1 p (.lst vs)) (μ1.put p (.lst ds)) := Nx.put s1.wd (fun _ => hp) ⟨vs, rfl, r, z⟩
    exact k _ _ _ _ (g p (s1.wd.free hp)) (n1.trans n2) (.ptr p)⟩
end

/-! ### calls -/
section
variable {X : Cx}
/-- a def's wish: of its arguments and the objects, what is wanted behind it -/
abbrev CT := List D → Mu → (D → Mu → Prop) → Prop
def spD (K : PySem.W.Frag) (C : CT) : Sp := fun vs H Q _ => ∃ (ds : List D) (μ : Mu) (Qd : D → Mu → Prop), RpAll K (hide H μ) vs ds ∧ Wd K H μ ∧ C ds μ Qd ∧ ∀ d μ' v H', Qd d μ' → Nx K H μ H' μ' → Rp K (hide H' μ') v d → Q v H'
def dCall (C : CT) (A : TF (List D)) : TF D := fun ρ μ Q => A ρ μ fun ds μ1 => C ds μ1 Q
theorem call_go {σ : L2.St} {H : Hp} {Q : VK} {K : PySem.W.Frag} {C : CT} {A : TF (List D)} {E : XK} (h : tD K (dCall C A) σ H Q) : tCall (spD K C) [] E (tDA K A) σ H Q := by
  obtain ⟨ρ, μ, Qd, s, hf, k⟩ := h
  refine Lift.go s hf fun ds μ1 vs H1 g s1 n1 r => ?_
  refine ⟨ds, μ1, Qd, by rw [List.append_nil]; exact r, s1.wd, g, fun d μ' v H' q n r => k d μ' v H' q (n1.trans n) r⟩
theorem de_call {k : Nat} {f : Addr} {fd : FuncData} {ps : List Str} {C : CT} {CX : CXT} {E : XK} {x : Str} {p pos : Pos} {e : Expr} {es : List Expr} {A : TF (List D)} (F : FnOk X.prog X.w X.K X.mg X.base CX k f fd ps (spD X.K C)) (hr : Room k X.A) (hg : Gl X x) (hm : X.mg x = some (.ref f)) (hk : PySem.W.keepIn X.K (.ref f) = true) (hb : Binds X.K fd ps []) (hx : Passes CX X E)
    (ha : DA X (e :: es) A) (hdb : (x == ("__debug__" : Str)) = false := by decide) (he : starEach (e :: es) X.env = (false, eval e X.env) :: starEach es X.env := by rfl) (hpl : (backTo pos (starEach es X.env)).any (·.1) = false := by rfl) :
    DE X (.Call (.Name x p) (e :: es) [] pos) (dCall C A) := weakE (pe_call F hr hg hm hk hb .nil hx ha hdb he hpl) fun _ _ _ h => call_go h
end

/-! ### statements -/
structure EndsD where
  nx : Env → Mu → Prop
  rt : D → Mu → Prop
  bk : Env → Mu → Prop := fun _ _ => False
  ct : Env → Mu → Prop := fun _ _ => False
structure Conn (K : PySem.W.Frag) (H : Hp) (μ : Mu) (E : EndsD) (D' : Ends) : Prop where
  nx : ∀ ρ' μ' σ' H', E.nx ρ' μ' → StOk K H' μ' σ' ρ' → Nx K H μ H' μ' → D'.nx σ' H'
  rt : ∀ d μ' v H', E.rt d μ' → Nx K H μ H' μ' → Rp K (hide H' μ') v d → D'.rt v H'
  bk : ∀ ρ' μ' σ' H', E.bk ρ' μ' → StOk K H' μ' σ' ρ' → Nx K H μ H' μ' → D'.bk σ' H'
  ct : ∀ ρ' μ' σ' H', E.ct ρ' μ' → StOk K H' μ' σ' ρ' → Nx K H μ H' μ' → D'.ct σ' H'
theorem Conn.after {K : PySem.W.Frag} {H H1 : Hp} {μ μ1 : Mu} {E : EndsD} {D' : Ends} (c : Conn K H μ E D') (n : Nx K H μ H1 μ1) : Conn K H1 μ1 E D' :=
  ⟨fun ρ' μ' σ' H' e s m => c.nx ρ' μ' σ' H' e s (n.trans m), fun d μ' v H' e m r => c.rt d μ' v H' e (n.trans m) r, fun ρ' μ' σ' H' e s m => c.bk ρ' μ' σ' H' e s (n.trans m), fun ρ' μ' σ' H' e s m => c.ct ρ' μ' σ' H' e s (n.trans m)⟩
abbrev TSD := EndsD → Env → Mu → Prop
def tDS (K : PySem.W.Frag) (G : TSD) : TS := fun D' σ H => ∃ (ρ : Env) (μ : Mu) (E : EndsD), StOk K H μ σ ρ ∧ G E ρ μ ∧ Conn K H μ E D'
abbrev DS (X : Cx) (st : Stmt) (G : TSD) : Prop := PS X st (tDS X.K G)
abbrev DSs (X : Cx) (st : List Stmt) (G : TSD) : Prop := PSs X st (tDS X.K G)
section
variable {X : Cx} {pos : Pos} {st : Stmt} {rest : List Stmt} {G1 G2 : TSD} {e : Expr} {F : TF D}
def sNext : TSD := fun E ρ μ => E.nx ρ μ
def sSeq (G1 G2 : TSD) : TSD := fun E ρ μ => G1 { E with nx := G2 E } ρ μ
theorem dss_nil : DSs X [] sNext := weakSs pss_nil fun D' σ H ⟨ρ, μ, E, s, g, c⟩ => c.nx ρ μ σ H g s (Nx.refl s.wd)
theorem dss_one (h : DS X st G1) : DSs X [st] G1 := pss_one h
theorem dss_cons (h1 : DS X st G1) (h2 : DSs X rest G2) : DSs X (st :: rest) (sSeq G1 G2) :=
  weakSs (pss_cons h1 h2) fun D' σ H ⟨ρ, μ, E, s, g, c⟩ => ⟨ρ, μ, { E with nx := G2 E }, s, g, ⟨fun ρ' μ' σ' H' g' s' n => ⟨ρ', μ', E, s', g', c.after n⟩, c.rt, c.bk, c.ct⟩⟩
theorem ds_pass : DS X (.Pass pos) sNext := weakS ps_pass fun D' σ H ⟨ρ, μ, E, s, g, c⟩ => c.nx ρ μ σ H g s (Nx.refl s.wd)
def sBreak : TSD := fun E ρ μ => E.bk ρ μ
def sCont : TSD := fun E ρ μ => E.ct ρ μ
theorem ds_break : DS X (.Break pos) sBreak := weakS ps_break fun D' σ H ⟨ρ, μ, E, s, g, c⟩ => c.bk ρ μ σ H g s (Nx.refl s.wd)
theorem ds_continue : DS X (.Continue pos) sCont := weakS ps_continue fun D' σ H ⟨ρ, μ, E, s, g, c⟩ => c.ct ρ μ σ H g s (Nx.refl s.wd)
def sNever : TSD := fun _ _ _ => False
theorem ds_never : DS X st sNever := weakS ps_never fun D' σ H ⟨ρ, μ, E, s, g, c⟩ => g
def sDrop (F : TF D) : TSD := fun E ρ μ => F ρ μ fun _ μ1 => E.nx ρ μ1
theorem ds_expr (h : DE X e F) (hs : swapsWith e none pos.line X.env = pure false := by rfl) : DS X (.Expr e pos) (sDrop F) :=
  weakS (ps_expr h hs) fun D' σ H ⟨ρ, μ, E, s, g, c⟩ => Lift.go s g fun d μ1 v H1 g1 s1 n1 r1 => c.nx ρ μ1 σ H1 g1 s1 n1
def sRet (F : TF D) : TSD := fun E ρ μ => F ρ μ E.rt
theorem ds_ret (h : DE X e F) : DS X (.Return (some e) pos) (sRet F) :=
  weakS (ps_ret h) fun D' σ H ⟨ρ, μ, E, s, g, c⟩ => Lift.go s g fun d μ1 v H1 g1 s1 n1 r1 => c.rt d μ1 v H1 g1 n1 r1
/-- a list that changed is handed back, and changes no more -/
def dFrz (F : TF D) : TF D := fun ρ μ Q => F ρ μ fun d μ1 => ∃ p ds, d = .ptr p ∧ μ1 p = some (.lst ds) ∧ Q (.lst ds) (μ1.del p)
theorem de_frz (h : DE X e F) : DE X e (dFrz F) :=
  weakE h fun σ H Q ⟨ρ, μ, Qd, s, hf, k⟩ => Lift.go s hf fun d μ1 v H1 ⟨p, ds, e, hp, g⟩ s1 n1 r1 => by
    subst e; cases r1
    obtain ⟨n2, r2⟩ := Nx.frz s1.wd hp
    exact k _ _ _ H1 g (n1.trans n2) r2
def sRetN : TSD := fun E _ μ => E.rt .non μ
theorem ds_retN : DS X (.Return none pos) sRetN := weakS ps_retN fun D' σ H ⟨ρ, μ, E, s, g, c⟩ => c.rt .non μ .non H g (Nx.refl s.wd) .non
def sIf (A : TF Bool) (G1 G2 : TSD) : TSD := fun E ρ μ => A ρ μ fun b μ1 => if b = true then G1 E ρ μ1 else G2 E ρ μ1
theorem ds_if {c : Expr} {a b : List Stmt} {A : TF Bool} (hc : DT X c A) (ha : DSs X a G1) (hb : DSs X b G2) : DS X (.If c a b pos) (sIf A G1 G2) :=
  weakS (ps_if hc ha hb) fun D' σ H ⟨ρ, μ, E, s, g, c⟩ => Lift.go (F := A) (R := RB) s g fun d μ1 v H1 g1 s1 n1 e1 => by
    cases (show v = d from e1)
    cases d with
    | true => exact ⟨ρ, μ1, E, s1, g1, c.after n1⟩
    | false => exact ⟨ρ, μ1, E, s1, g1, c.after n1⟩
def sSet (i : Nat) (F : TF D) : TSD := fun E ρ μ => F ρ μ fun d μ1 => E.nx (ρ.set i (some d)) μ1
theorem ds_set (i : Nat) {x : Str} {pos' : Pos} (hN : X.N.Nodup) (h : DE X e F) (hi : X.N[i]? = some x := by rfl) (hx : Loc X.env.scope x := by first | exact Or.inl rfl | exact Or.inr rfl) (hs : swapsWith e (some (.Name x pos')) pos.line X.env = pure false := by rfl) (hf : X.fn x = true ∨ X.env.scope.names.lookup x = some .local := by first | exact .inl rfl | exact .inr rfl | assumption) :
    DS X (.Assign [.Name x pos'] e pos) (sSet i F) :=
  weakS (ps_set hN hi hx h hs hf) fun D' σ H ⟨ρ, μ, E, s, g, c⟩ => Lift.go s g fun d μ1 v H1 g1 s1 n1 r1 => c.nx _ μ1 _ H1 g1 (s1.set r1 i) n1
/-- the list in slot i changes no more -/
def sFrz (i : Nat) (G : TSD) : TSD := fun E ρ μ => ∃ p ds, ρ[i]? = some (some (.ptr p)) ∧ μ p = some (.lst ds) ∧ G E (ρ.set i (some (.lst ds))) (μ.del p)
theorem set_get_self {α : Type} {l : List α} {i : Nat} {a : α} (h : l[i]? = some a) : l.set i a = l := by
  obtain ⟨hl, e⟩ := List.getElem?_eq_some_iff.mp h
  subst e
  exact List.set_getElem_self hl
theorem dss_frz (i : Nat) {sts : List Stmt} (h : DSs X sts G1) : DSs X sts (sFrz i G1) :=
  weakSs h fun D' σ H ⟨ρ, μ, E, s, ⟨p, ds, e, hp, g⟩, c⟩ => by
    obtain ⟨n, r⟩ := Nx.frz s.wd hp
    refine ⟨_, _, E, ?_, g, c.after n⟩
    obtain ⟨v, hv, rv⟩ := s.env.2 i _ e
    cases rv
    have := (s.next n).set r i
    rw [set_get_self hv] at this
    exact this
end

/-! ### a def -/
def startD (N : List Str) (ds : List D) : Env := ds.map some ++ List.replicate (N.length - ds.length) none
theorem renv_start {K : PySem.W.Frag} {G : Hp} {N : List Str} {vs : List V} {ds : List D} (r : RpAll K G vs ds) : Renv K G (L2.start N vs) (startD N ds) := by
  refine ⟨by unfold L2.start startD; rw [List.length_append, List.length_append, List.length_map, List.length_map, List.length_replicate, List.length_replicate, r.length], fun i d h => ?_⟩
  unfold startD at h
  unfold L2.start
  by_cases hi : i < ds.length
  · rw [List.getElem?_append_left (by rw [List.length_map]; exact hi), List.getElem?_map] at h
    rw [List.getElem?_append_left (by rw [List.length_map, r.length]; exact hi), List.getElem?_map]
    cases q : ds[i]? with
    | none => rw [q] at h; cases h
    | some e =>
      rw [q] at h; cases h
      obtain ⟨v, h1, h2⟩ := r.get q
      exact ⟨v, by rw [h1]; rfl, h2⟩
  · rw [List.getElem?_append_right (by rw [List.length_map]; omega), List.getElem?_replicate] at h
    split at h <;> cases h
theorem Fun.okD {P : Program} {w : World} {K : PySem.W.Frag} {mg : Str → Option Value} {base : Heap} {x qual : Str} {st : Stmt} {f : Addr} {fd : FuncData} {N ps : List Str} {k : Nat} {C : CT} {G : TSD} (F : L2.Fun K x qual st f fd) (S : FnScope N ps (defScope st))
    (body : ∀ (cdv : Value) (A : Around) (outer : List PySem.Env) (s : Shared) (H : Hp) (E : XK), Room k (A.deeper (PyProof.Rows.envOfC qual (defScope st) s.heap.objs.size f cdv)) → DSs (cxOf CX0 P w K mg base N qual (defScope st) f cdv A outer s H E).nox (defBody st) G)
    (len : ∀ ds μ Q, C ds μ Q → ds.length = ps.length)
    (h : ∀ ds μ Q, C ds μ Q → G { nx := fun _ μ' => Q .non μ', rt := Q } (startD N ds) μ) : FnOk P w K mg base CX0 (k + 1) f fd ps (spD K C) := by
  refine F.ok S (fun vs H Q E ⟨ds, μ, Qd, r, _, c, _⟩ => r.length.trans (len ds μ Qd c)) fun cdv A outer s H vs Q E hr ⟨ds, μ, Qd, r, w', c, kk⟩ => ?_
  refine ⟨_, body cdv A outer s H E hr, startD N ds, μ, _, ⟨renv_start r, w'⟩, h ds μ Qd c, ⟨fun ρ' μ' σ' H' g s' n => kk .non μ' .non H' g n .non, fun d μ' v H' g n r' => kk d μ' v H' g n r', fun _ _ _ _ z => z.elim, fun _ _ _ _ z => z.elim⟩⟩
end DL
end

-- part DL2
section
namespace DL
open PySem L2

/-! ### operators by data -/
section
variable {K : PySem.W.Frag}
theorem OpD.or {r r' : R2} {f f' g : F2} (h : OpD K r f) (h' : OpD K r' f') (sp : ∀ μ x y P, g μ x y P → f μ x y P ∨ f' μ x y P) : OpD K (fun x y H Q => r x y H Q ∨ r' x y H Q) g :=
  fun x y vx vy H μ P Q w rx ry q k => (sp μ x y P q).elim (fun z => .inl (h x y vx vy H μ P Q w rx ry z k)) fun z => .inr (h' x y vx vy H μ P Q w rx ry z k)
/-- two ints -/
def fII (C : Int → Int → Prop) (g : Int → Int → D) : F2 := fun _ x y P => match x, y with
  | .int i, .int j => C i j ∧ P (g i j)
  | _, _ => False
def isSc : D → Bool
  | .int _ => true
  | .bl _ => true
  | _ => false
def vOf : D → V
  | .int i => .int i
  | .bl b => .bl b
  | _ => .non
theorem od_ii {C : Int → Int → Prop} {g : Int → Int → D} {gv : Int → Int → V} (hg : ∀ i j G, Rp K G (gv i j) (g i j)) : OpD K (rI C gv) (fII C g) := by
  intro x y vx vy H μ P Q w rx ry q k
  cases rx <;> try exact q.elim
  cases ry <;> try exact q.elim
  exact ⟨_, _, rfl, rfl, q.1, k _ _ H q.2 (Nx.refl w) (hg _ _ _)⟩
theorem od_ii0 {g : Int → Int → D} {gv : Int → Int → V} (hg : ∀ i j G, Rp K G (gv i j) (g i j)) : OpD K (rI0 gv) (fII (fun _ _ => True) g) := by
  intro x y vx vy H μ P Q w rx ry q k
  cases rx <;> try exact q.elim
  cases ry <;> try exact q.elim
  exact ⟨_, _, rfl, rfl, k _ _ H q.2 (Nx.refl w) (hg _ _ _)⟩
def fAdd : F2 := fun _ x y P => match x, y with
  | .int i, .int j => P (.int (i + j))
  | .str a, .str b => a.length + b.length ≤ sizeLine ∧ P (.str (a ++ b))
  | .lst a, .lst b => a.length + b.length ≤ sizeLine ∧ P (.lst (a ++ b))
  | .tup a, .tup b => a.length + b.length ≤ sizeLine ∧ P (.tup (a ++ b))
  | _, _ => False
theorem sok_add {a b : Str} (ha : SOk a) (hb : SOk b) (h : a.length + b.length ≤ sizeLine) : SOk (a ++ b) := by
  refine ⟨?_, ?_⟩
  · show (a.cps ++ b.cps).size ≤ _
    rw [Array.size_append]
    exact h
  · show (a.cps ++ b.cps).all _ = true
    rw [Array.all_append, Bool.and_eq_true]
    exact ⟨ha.2, hb.2⟩
theorem str_len_add (a b : Str) : (a ++ b).length = a.length + b.length := by
  show (a.cps ++ b.cps).size = a.cps.size + b.cps.size
  simp
def rAddD (K : PySem.W.Frag) : R2 := fun x y H Q => (rI0 fun i j => .int (i + j)) x y H Q ∨ (fun x y H Q => (∃ i j, x = V.str i ∧ y = V.str j ∧ i.length + j.length ≤ sizeLine ∧ Q (.str (i ++ j)) H) ∨ ((rCat x y H Q) ∨ rCatA K x y H Q)) x y H Q
theorem op_addD {X : Cx} : OpR X (binaryOp .Add) (rAddD X.K) := op_add.or (op_add_str.or (op_cat.or op_catA))
theorem od_add : OpD K (rAddD K) fAdd := by
  intro x y vx vy H μ P Q w rx ry q k
  cases rx <;> cases ry <;> try exact q.elim
  · exact .inl ⟨_, _, rfl, rfl, k _ _ H q (Nx.refl w) (.int _)⟩
  · rename_i a ha b hb
    exact .inr (.inl ⟨_, _, rfl, rfl, q.1, k _ _ H q.2 (Nx.refl w) (.str _ (sok_add ha hb q.1))⟩)
  · rename_i a xs ds ha ra za b ys es hb rb zb
    have hz : xs.length + ys.length ≤ sizeLine := by rw [ra.length, rb.length]; exact q.1
    refine .inr (.inr (.inr ⟨_, _, xs, ys, rfl, rfl, SqT.of (hide_in ha), SqT.of (hide_in hb), hz, fun e => ?_, fun e1 e2 => ?_, fun e1 e2 p hp => ?_⟩))
    · subst e
      cases ra
      exact k _ _ H q.2 (Nx.refl w) (.tup hb rb zb)
    · subst e2
      cases rb
      exact k _ _ H q.2 (Nx.refl w) (.tup ha (by rw [List.append_nil]; exact ra) (by rw [List.append_nil]; exact za))
    · have n : Nx K H μ (upd H p (.tup (xs ++ ys))) μ := Nx.new w hp
      exact k _ _ _ q.2 n (.tup (new_at (w.free hp)) ((ra.append rb).mono n.ext) (by rw [List.length_append]; exact q.1))
  · rename_i a xs ds ha ra za b ys es hb rb zb
    have hz : xs.length + ys.length ≤ sizeLine := by rw [ra.length, rb.length]; exact q.1
    refine .inr (.inr (.inl ⟨_, _, xs, ys, rfl, rfl, hide_in ha, hide_in hb, hz, fun p hp => ?_⟩))
    have n : Nx K H μ (upd H p (.lst (xs ++ ys))) μ := Nx.new w hp
    exact k _ _ _ q.2 n (.lst (new_at (w.free hp)) ((ra.append rb).mono n.ext) (by rw [List.length_append]; exact q.1))
/-- a * b: two ints, an int and a truth value, a text and an int -/
def b2I (b : Bool) : Int := if b = true then 1 else 0
def fMul : F2 := fun _ x y P => match x, y with
  | .int i, .int j => CMul i j ∧ P (.int (i * j))
  | .int i, .bl b => P (.int (i * b2I b))
  | _, _ => False
def rMulD : R2 := fun x y H Q => (rI CMul fun i j => .int (i * j)) x y H Q ∨ (∃ i b, x = V.int i ∧ y = V.bl b ∧ Q (.int (i * b2I b)) H)
theorem op_mulB {X : Cx} : OpR X (binaryOp .Mult) (fun x y H Q => ∃ i b, x = V.int i ∧ y = V.bl b ∧ Q (.int (i * b2I b)) H) := by
  intro pins s σ H x y v u Q I rx ry h
  obtain ⟨i, b, rfl, rfl, q⟩ := h
  obtain ⟨t, rfl⟩ := rx
  cases ry
  exact PySem.IntBool.mul_int_bool ⟨.int _, H, I.tok _, ⟨_, rfl⟩, q⟩
theorem op_mulD {X : Cx} : OpR X (binaryOp .Mult) rMulD := op_mul.or op_mulB
theorem od_mul : OpD K rMulD fMul := by
  intro x y vx vy H μ P Q w rx ry q k
  cases rx <;> cases ry <;> try exact q.elim
  · exact .inr ⟨_, _, rfl, rfl, k _ _ H q (Nx.refl w) (.int _)⟩
  · exact .inl ⟨_, _, rfl, rfl, q.1, k _ _ H q.2 (Nx.refl w) (.int _)⟩
end

/-! ### equality of data -/
mutual
def toP : D → PyData
  | .non => .none
  | .bl b => .bool b
  | .int i => .int i
  | .str s => .str s
  | .tup ds => .tuple (toPs ds)
  | .lst ds => .list (toPs ds)
  | _ => .none
def toPs : List D → List PyData
  | [] => []
  | d :: ds => toP d :: toPs ds
end
mutual
/-- plain through and through, of at most n levels -/
def plain : Nat → D → Bool
  | _, .non => true
  | _, .bl _ => true
  | _, .int _ => true
  | _, .str _ => true
  | n + 1, .tup ds => plains n ds
  | n + 1, .lst ds => plains n ds
  | _, _ => false
def plains : Nat → List D → Bool
  | _, [] => true
  | n, d :: ds => plain n d && plains n ds
end
mutual
def eqvD : D → D → Bool
  | .non, .non => true
  | .bl a, .bl b => a == b
  | .int a, .int b => a == b
  | .bl a, .int b => b2I a == b
  | .int a, .bl b => a == b2I b
  | .str a, .str b => a == b
  | .tup a, .tup b => eqvDs a b
  | .lst a, .lst b => eqvDs a b
  | _, _ => false
def eqvDs : List D → List D → Bool
  | [], [] => true
  | x :: xs, y :: ys => eqvD x y && eqvDs xs ys
  | _, _ => false
end
section
variable {K : PySem.W.Frag} {G : Hp}
mutual
theorem dp_of {H : Hp} {μ : Mu} : ∀ {v : V} {d : D} {n : Nat}, Rp K (hide H μ) v d → plain n d = true → Dp K H v (toP d)
  | _, _, _, .non, _ => .non
  | _, _, _, .bl b, _ => .bl b
  | _, _, _, .int i, _ => .int i
  | _, _, _, .str x _, _ => .str x
  | _, _, n, .tup (ds := ds) h r _, p => by
    cases n with
    | zero => simp [plain] at p
    | succ n => exact .tup (SqT.of (hide_in h)) (dp_all r (by simpa [plain] using p))
  | _, _, n, .lst (ds := ds) h r _, p => by
    cases n with
    | zero => simp [plain] at p
    | succ n => exact .lst (SqL.of (hide_in h)) (dp_all r (by simpa [plain] using p))
  | _, _, n, .ptr a, p => by cases n <;> simp [plain] at p
  | _, _, n, .scr h, p => by cases n <;> simp [plain] at p
  | _, _, n, .ty s, p => by cases n <;> simp [plain] at p
theorem dp_all {H : Hp} {μ : Mu} : ∀ {vs : List V} {ds : List D} {n : Nat}, RpAll K (hide H μ) vs ds → plains n ds = true → DpAll K H vs (toPs ds)
  | _, _, _, .nil, _ => .nil
  | _, _, n, .cons r t, p => by
    simp only [plains, Bool.and_eq_true] at p
    exact .cons (dp_of r p.1) (dp_all t p.2)
end
mutual
theorem lay_of : ∀ {v : V} {d : D} {n : Nat}, Rp K G v d → plain n d = true → (toP d).canLay0 = true ∧ (toP d).depth ≤ n
  | _, _, _, .non, _ => by simp [toP, PyData.canLay0, PyData.depth]
  | _, _, _, .bl b, _ => by simp [toP, PyData.canLay0, PyData.depth]
  | _, _, _, .int i, _ => by simp [toP, PyData.canLay0, PyData.depth]
  | _, _, _, .str x h, _ => by simp [toP, PyData.canLay0, PyData.depth, h.2]
  | _, _, n, .tup (ds := ds) _ r _, p => by
    cases n with
    | zero => simp [plain] at p
    | succ n =>
      have := lay_all (n := n) r (by simpa [plain] using p)
      simp only [toP, PyData.canLay0, PyData.depth]
      exact ⟨this.1, by omega⟩
  | _, _, n, .lst (ds := ds) _ r _, p => by
    cases n with
    | zero => simp [plain] at p
    | succ n =>
      have := lay_all (n := n) r (by simpa [plain] using p)
      simp only [toP, PyData.canLay0, PyData.depth]
      exact ⟨this.1, by omega⟩
  | _, _, n, .ptr a, p => by cases n <;> simp [plain] at p
  | _, _, n, .scr h, p => by cases n <;> simp [plain] at p
  | _, _, n, .ty s, p => by cases n <;> simp [plain] at p
theorem lay_all : ∀ {vs : List V} {ds : List D} {n : Nat}, RpAll K G vs ds → plains n ds = true → PyData.canLayAll0 (toPs ds) = true ∧ PyData.depthAll (toPs ds) ≤ n
  | _, _, _, .nil, _ => by simp [toPs, PyData.canLayAll0, PyData.depthAll]
  | _, _, n, .cons (d := d) (ds := ds) r t, p => by
    simp only [plains, Bool.and_eq_true] at p
    have h1 := lay_of r p.1
    have h2 := lay_all t p.2
    simp only [toPs, PyData.canLayAll0, PyData.depthAll, Bool.and_eq_true]
    exact ⟨⟨h1.1, h2.1⟩, by omega⟩
end
theorem shaped_of {v : V} {d : D} {n : Nat} (r : Rp K G v d) (h : plain n d = true) (hn : n ≤ 64) : SeqAt.shaped (toP d) = true := by
  have := lay_of r h
  show ((toP d).canLay0 && decide ((toP d).depth ≤ 64)) = true
  rw [Bool.and_eq_true]
  exact ⟨this.1, decide_eq_true (by omega)⟩
mutual
theorem eqv_toP : ∀ {n m : Nat} (x y : D), plain n x = true → plain m y = true → PyData.eqv (toP x) (toP y) = eqvD x y
  | n, m, .non, .non, _, _ => by simp [toP, PyData.eqv, eqvD]
  | n, m, .non, .bl _, _, _ => by simp [toP, PyData.eqv, eqvD]
  | n, m, .non, .int _, _, _ => by simp [toP, PyData.eqv, eqvD]
  | n, m, .non, .str _, _, _ => by simp [toP, PyData.eqv, eqvD]
  | n, m, .non, .tup _, _, _ => by simp [toP, PyData.eqv, eqvD]
  | n, m, .non, .lst _, _, _ => by simp [toP, PyData.eqv, eqvD]
  | n, m, .bl _, .non, _, _ => by simp [toP, PyData.eqv, eqvD]
  | n, m, .bl _, .bl _, _, _ => by simp [toP, PyData.eqv, eqvD]
  | n, m, .bl _, .int _, _, _ => by simp [toP, PyData.eqv, eqvD, b2I]
  | n, m, .bl _, .str _, _, _ => by simp [toP, PyData.eqv, eqvD]
  | n, m, .bl _, .tup _, _, _ => by simp [toP, PyData.eqv, eqvD]
  | n, m, .bl _, .lst _, _, _ => by simp [toP, PyData.eqv, eqvD]
  | n, m, .int _, .non, _, _ => by simp [toP, PyData.eqv, eqvD]
  | n, m, .int _, .bl _, _, _ => by simp [toP, PyData.eqv, eqvD, b2I]
  | n, m, .int _, .int _, _, _ => by simp [toP, PyData.eqv, eqvD]
  | n, m, .int _, .str _, _, _ => by simp [toP, PyData.eqv, eqvD]
  | n, m, .int _, .tup _, _, _ => by simp [toP, PyData.eqv, eqvD]
  | n, m, .int _, .lst _, _, _ => by simp [toP, PyData.eqv, eqvD]
  | n, m, .str _, .non, _, _ => by simp [toP, PyData.eqv, eqvD]
  | n, m, .str _, .bl _, _, _ => by simp [toP, PyData.eqv, eqvD]
  | n, m, .str _, .int _, _, _ => by simp [toP, PyData.eqv, eqvD]
  | n, m, .str _, .str _, _, _ => by simp [toP, PyData.eqv, eqvD]
  | n, m, .str _, .tup _, _, _ => by simp [toP, PyData.eqv, eqvD]
  | n, m, .str _, .lst _, _, _ => by simp [toP, PyData.eqv, eqvD]
  | n, m, .tup _, .non, _, _ => by simp [toP, PyData.eqv, eqvD]
  | n, m, .tup _, .bl _, _, _ => by simp [toP, PyData.eqv, eqvD]
  | n, m, .tup _, .int _, _, _ => by simp [toP, PyData.eqv, eqvD]
  | n, m, .tup _, .str _, _, _ => by simp [toP, PyData.eqv, eqvD]
  | n, m, .tup xs, .tup ys, p, q => by
    cases n with
    | zero => simp [plain] at p
    | succ n =>
      cases m with
      | zero => simp [plain] at q
      | succ m =>
        simp only [toP, PyData.eqv, eqvD]
        exact eqv_all xs ys (by simpa [plain] using p) (by simpa [plain] using q)
  | n, m, .tup _, .lst _, _, _ => by simp [toP, PyData.eqv, eqvD]
  | n, m, .lst _, .non, _, _ => by simp [toP, PyData.eqv, eqvD]
  | n, m, .lst _, .bl _, _, _ => by simp [toP, PyData.eqv, eqvD]
  | n, m, .lst _, .int _, _, _ => by simp [toP, PyData.eqv, eqvD]
  | n, m, .lst _, .str _, _, _ => by simp [toP, PyData.eqv, eqvD]
  | n, m, .lst _, .tup _, _, _ => by simp [toP, PyData.eqv, eqvD]
  | n, m, .lst xs, .lst ys, p, q => by
    cases n with
    | zero => simp [plain] at p
    | succ n =>
      cases m with
      | zero => simp [plain] at q
      | succ m =>
        simp only [toP, PyData.eqv, eqvD]
        exact eqv_all xs ys (by simpa [plain] using p) (by simpa [plain] using q)
  | n, m, .ptr a, y, p, _ => by cases n <;> simp [plain] at p
  | n, m, .scr a, y, p, _ => by cases n <;> simp [plain] at p
  | n, m, .ty a, y, p, _ => by cases n <;> simp [plain] at p
  | n, m, x, .ptr a, _, p => by cases m <;> simp [plain] at p
  | n, m, x, .scr a, _, p => by cases m <;> simp [plain] at p
  | n, m, x, .ty a, _, p => by cases m <;> simp [plain] at p
theorem eqv_all : ∀ {n m : Nat} (xs ys : List D), plains n xs = true → plains m ys = true → PyData.eqvAll (toPs xs) (toPs ys) = eqvDs xs ys
  | n, m, [], [], _, _ => by simp [toPs, PyData.eqvAll, eqvDs]
  | n, m, [], _ :: _, _, _ => by simp [toPs, PyData.eqvAll, eqvDs]
  | n, m, _ :: _, [], _, _ => by simp [toPs, PyData.eqvAll, eqvDs]
  | n, m, x :: xs, y :: ys, p, q => by
    simp only [plains, Bool.and_eq_true] at p q
    simp only [toPs, PyData.eqvAll, eqvDs]
    rw [eqv_toP x y p.1 q.1, eqv_all xs ys p.2 q.2]
end
def fEq : F2 := fun _ x y P => plain 16 x = true ∧ plain 16 y = true ∧ P (.bl (eqvD x y))
def fNe : F2 := fun _ x y P => plain 16 x = true ∧ plain 16 y = true ∧ P (.bl (!eqvD x y))
theorem od_eq : OpD K (rEqD K) fEq := fun x y vx vy H μ P Q w rx ry ⟨px, py, q⟩ k =>
  ⟨toP x, toP y, dp_of rx px, dp_of ry py, shaped_of rx px (by decide), shaped_of ry py (by decide), by rw [eqv_toP x y px py]; exact k _ _ H q (Nx.refl w) (.bl _)⟩
theorem od_ne : OpD K (rNeD K) fNe := fun x y vx vy H μ P Q w rx ry ⟨px, py, q⟩ k =>
  ⟨toP x, toP y, dp_of rx px, dp_of ry py, shaped_of rx px (by decide), shaped_of ry py (by decide), by rw [eqv_toP x y px py]; exact k _ _ H q (Nx.refl w) (.bl _)⟩
end
/-! ### is None; in; places -/
section
variable {K : PySem.W.Frag}
def isN : D → Bool
  | .non => true
  | _ => false
def fIsN : F2 := fun _ x y P => y = .non ∧ P (.bl (isN x))
def fNotN : F2 := fun _ x y P => y = .non ∧ P (.bl (!isN x))
theorem isN_of {G : Hp} {v : V} {d : D} (r : Rp K G v d) : decide (v = .non) = isN d := by cases r <;> simp [isN]
theorem od_isN : OpD K (fun x y H Q => y = V.non ∧ Q (.bl (decide (x = .non))) H) fIsN := fun x y vx vy H μ P Q w rx ry ⟨e, q⟩ k => by
  subst e; cases ry
  exact ⟨rfl, by rw [isN_of rx]; exact k _ _ H q (Nx.refl w) (.bl _)⟩
theorem od_notN : OpD K (fun x y H Q => y = V.non ∧ Q (.bl (!decide (x = .non))) H) fNotN := fun x y vx vy H μ P Q w rx ry ⟨e, q⟩ k => by
  subst e; cases ry
  exact ⟨rfl, by rw [isN_of rx]; exact k _ _ H q (Nx.refl w) (.bl _)⟩
/-- x[i] -/
def fIx : F2 := fun μ x y P => match x, y with
  | .ptr p, .int i => ∃ ds d, μ p = some (.lst ds) ∧ atI ds i = some d ∧ P d
  | .lst ds, .int i => ∃ d, atI ds i = some d ∧ P d
  | .tup ds, .int i => ∃ d, atI ds i = some d ∧ P d
  | .str s, .int i => ∃ c, atI s.cps.toList i = some c ∧ P (.str ⟨#[c]⟩)
  | _, _ => False
theorem RpAll.at {G : Hp} {vs : List V} {ds : List D} {i : Int} {d : D} (r : RpAll K G vs ds) (h : atI ds i = some d) : ∃ v, atI vs i = some v ∧ Rp K G v d := by
  unfold atI at h ⊢
  rw [r.length]
  cases q : ixN ds.length i with
  | none => rw [q] at h; cases h
  | some j =>
    rw [q] at h
    obtain ⟨v, h1, h2⟩ := r.get (show ds[j]? = some d from h)
    exact ⟨v, h1, h2⟩
theorem sign_ok {s : Str} {i : Int} {c : Nat} (hs : SOk s) (h : atI s.cps.toList i = some c) : SOk ⟨#[c]⟩ := by
  refine ⟨by show 1 ≤ sizeLine; decide, ?_⟩
  obtain ⟨j, _, h2, _⟩ := atI_get h
  have h3 := hs.2
  unfold PyData.strOk at h3 ⊢
  rw [Array.all_eq_true'] at h3
  have := h3 c (by have := List.mem_of_getElem? h2; simpa using this)
  simpa using this
theorem od_ix : OpD K (rIx K) fIx := by
  intro x y vx vy H μ P Q w rx ry q k
  cases rx <;> cases ry <;> try exact q.elim
  · rename_i s hz i
    obtain ⟨c, h, q⟩ := q
    exact .inr (.inr ⟨_, _, c, rfl, rfl, hz.1, h, k _ _ H q (Nx.refl w) (.str _ (sign_ok hz h))⟩)
  · rename_i a xs ds ha ra za i
    obtain ⟨d, h, q⟩ := q
    obtain ⟨v, h1, h2⟩ := ra.at h
    exact .inr (.inl ⟨_, _, _, v, rfl, rfl, SqT.of (hide_in ha), h1, k d v H q (Nx.refl w) h2⟩)
  · rename_i a xs ds ha ra za i
    obtain ⟨d, h, q⟩ := q
    obtain ⟨v, h1, h2⟩ := ra.at h
    exact .inl ⟨_, _, _, v, rfl, rfl, SqL.of (hide_in ha), h1, k d v H q (Nx.refl w) h2⟩
  · rename_i a i
    obtain ⟨ds, d, hp, h, q⟩ := q
    obtain ⟨xs, e, ra, za⟩ := w a _ hp
    obtain ⟨v, h1, h2⟩ := ra.at h
    exact .inl ⟨_, _, _, v, rfl, rfl, SqL.of e, h1, k d v H q (Nx.refl w) h2⟩
/-- flat things, by their equality -/
def flatD : D → Bool
  | .non => true
  | .bl _ => true
  | .int _ => true
  | .str _ => true
  | _ => false
theorem flat_of {G : Hp} {v : V} {d : D} (r : Rp K G v d) (h : flatD d = true) : flatV v = true := by cases r <;> first | rfl | cases h
theorem eqV_of {G : Hp} {v u : V} {d e : D} (r : Rp K G v d) (r' : Rp K G u e) (h : flatD d = true) (h' : flatD e = true) : eqV v u = eqvD d e := by
  cases r <;> (try (cases h; done)) <;> cases r' <;> (try (cases h'; done)) <;> first | rfl | simp [eqV, eqvD, b2I]
theorem flats_of {G : Hp} : ∀ {vs : List V} {ds : List D}, RpAll K G vs ds → ds.all flatD = true → vs.all flatV = true
  | _, _, .nil, _ => rfl
  | _, _, .cons r t, h => by
    simp only [List.all_cons, Bool.and_eq_true] at h ⊢
    exact ⟨flat_of r h.1, flats_of t h.2⟩
theorem inV_of {G : Hp} {x : V} {d : D} (rx : Rp K G x d) (hx : flatD d = true) : ∀ {vs : List V} {ds : List D}, RpAll K G vs ds → ds.all flatD = true → inV x vs = ds.any fun e => eqvD e d
  | _, _, .nil, _ => rfl
  | _, _, .cons r t, h => by
    simp only [List.all_cons, Bool.and_eq_true] at h
    have := inV_of rx hx t h.2
    unfold inV at this ⊢
    rw [List.any_cons, List.any_cons, this, eqV_of r rx h.1 hx]
/-- x in y: flat things in a list or tuple, a text in a text -/
def fIn (neg : Bool) : F2 := fun _ x y P => match x, y with
  | .str a, .str b => P (.bl (neg ^^ (!(Builtin.Str.occurrences b a 0 b.length 1).isEmpty)))
  | _, .lst ds => flatD x = true ∧ ds.all flatD = true ∧ P (.bl (neg ^^ ds.any fun e => eqvD e x))
  | _, .tup ds => flatD x = true ∧ ds.all flatD = true ∧ P (.bl (neg ^^ ds.any fun e => eqvD e x))
  | _, _ => False
def rInD2 (K : PySem.W.Frag) : R2 := fun x y H Q => rIn K false x y H Q ∨ (fun x y H Q => ∃ i j, x = V.str i ∧ y = V.str j ∧ Q (.bl (!(Builtin.Str.occurrences j i 0 j.length 1).isEmpty)) H) x y H Q
def rNotInD2 (K : PySem.W.Frag) : R2 := fun x y H Q => rIn K true x y H Q ∨ (fun x y H Q => ∃ i j, x = V.str i ∧ y = V.str j ∧ Q (.bl (!(!(Builtin.Str.occurrences j i 0 j.length 1).isEmpty))) H) x y H Q
theorem op_inD2 {X : Cx} : OpR X (compareOp .In) (rInD2 X.K) := op_in_seq.or op_in_str
theorem op_notInD2 {X : Cx} : OpR X (compareOp .NotIn) (rNotInD2 X.K) := op_notIn_seq.or op_notIn_str
theorem in_seq_go {x y : D} {vx vy : V} {H : Hp} {μ : Mu} {P : D → Prop} {Q : VK} {neg : Bool} {ds : List D} {b : Bool} (w : Wd K H μ) (rx : Rp K (hide H μ) vx x) (ry : Rp K (hide H μ) vy y) (hy : y = .lst ds ∨ y = .tup ds)
    (h1 : flatD x = true) (h2 : ds.all flatD = true) (hb : b = (neg ^^ ds.any fun e => eqvD e x)) (q : P (.bl b)) (k : ∀ z vz H', P z → Nx K H μ H' μ → Rp K (hide H' μ) vz z → Q vz H') : rIn K neg vx vy H Q := by
  rcases hy with rfl | rfl
  · cases ry with
    | lst ha ra za =>
      refine ⟨_, _, rfl, .inl (SqL.of (hide_in ha)), flat_of rx h1, flats_of ra h2, ?_⟩
      have e := inV_of rx h1 ra h2
      rw [e]
      have e2 : (if neg = true then !(ds.any fun e => eqvD e x) else ds.any fun e => eqvD e x) = b := by rw [hb]; cases neg <;> simp
      rw [e2]
      exact k _ _ H q (Nx.refl w) (.bl _)
  · cases ry with
    | tup ha ra za =>
      refine ⟨_, _, rfl, .inr (SqT.of (hide_in ha)), flat_of rx h1, flats_of ra h2, ?_⟩
      have e := inV_of rx h1 ra h2
      rw [e]
      have e2 : (if neg = true then !(ds.any fun e => eqvD e x) else ds.any fun e => eqvD e x) = b := by rw [hb]; cases neg <;> simp
      rw [e2]
      exact k _ _ H q (Nx.refl w) (.bl _)
theorem in_cases {neg : Bool} {μ : Mu} {x y : D} {P : D → Prop} (q : fIn neg μ x y P) : (∃ a b, x = .str a ∧ y = .str b ∧ P (.bl (neg ^^ (!(Builtin.Str.occurrences b a 0 b.length 1).isEmpty)))) ∨
    ∃ ds, (y = .lst ds ∨ y = .tup ds) ∧ flatD x = true ∧ ds.all flatD = true ∧ P (.bl (neg ^^ ds.any fun e => eqvD e x)) := by
  cases y <;> first
    | exact .inr ⟨_, .inl rfl, (by cases x <;> exact q)⟩
    | exact .inr ⟨_, .inr rfl, (by cases x <;> exact q)⟩
    | (cases x <;> first | exact q.elim | exact .inl ⟨_, _, rfl, rfl, q⟩)
theorem od_in : OpD K (rInD2 K) (fIn false) := by
  intro x y vx vy H μ P Q w rx ry q k
  rcases in_cases q with ⟨a, b, rfl, rfl, q⟩ | ⟨ds, hy, h1, h2, q⟩
  · cases rx; cases ry
    exact .inr ⟨_, _, rfl, rfl, k _ _ H q (Nx.refl w) (by rw [Bool.false_xor]; exact .bl _)⟩
  · exact .inl (in_seq_go w rx ry hy h1 h2 rfl q k)
theorem od_notIn : OpD K (rNotInD2 K) (fIn true) := by
  intro x y vx vy H μ P Q w rx ry q k
  rcases in_cases q with ⟨a, b, rfl, rfl, q⟩ | ⟨ds, hy, h1, h2, q⟩
  · cases rx; cases ry
    exact .inr ⟨_, _, rfl, rfl, k _ _ H q (Nx.refl w) (by rw [Bool.true_xor]; exact .bl _)⟩
  · exact .inl (in_seq_go w rx ry hy h1 h2 rfl q k)
/-- order: ints, texts -/
def fCmp (c : Int → Int → Bool) (t : Str → Str → Bool) : F2 := fun _ x y P => match x, y with
  | .int i, .int j => P (.bl (c i j))
  | .str a, .str b => P (.bl (t a b))
  | _, _ => False
theorem od_cmp {c : Int → Int → Bool} {t : Str → Str → Bool} : OpD K (fun x y H Q => (rI0 fun i j => .bl (c i j)) x y H Q ∨ (∃ i j, x = V.str i ∧ y = V.str j ∧ Q (.bl (t i j)) H)) (fCmp c t) := by
  intro x y vx vy H μ P Q w rx ry q k
  cases rx <;> cases ry <;> try exact q.elim
  · exact .inl ⟨_, _, rfl, rfl, k _ _ H q (Nx.refl w) (.bl _)⟩
  · exact .inr ⟨_, _, rfl, rfl, k _ _ H q (Nx.refl w) (.bl _)⟩
end
section
variable {X : Cx}
abbrev ltS (a b : Str) : Bool := decide (a.cps.toList < b.cps.toList)
theorem op_ltD : OpR X (compareOp .Lt) (fun x y H Q => (rI0 fun i j => .bl (decide (i < j))) x y H Q ∨ (∃ i j, x = V.str i ∧ y = V.str j ∧ Q (.bl (decide (i.cps.toList < j.cps.toList))) H)) := op_lt.or op_lt_str
theorem op_leD : OpR X (compareOp .LtE) (fun x y H Q => (rI0 fun i j => .bl (decide (i ≤ j))) x y H Q ∨ (∃ i j, x = V.str i ∧ y = V.str j ∧ Q (.bl (!decide (j.cps.toList < i.cps.toList))) H)) := op_le.or op_le_str
theorem op_gtD : OpR X (compareOp .Gt) (fun x y H Q => (rI0 fun i j => .bl (decide (j < i))) x y H Q ∨ (∃ i j, x = V.str i ∧ y = V.str j ∧ Q (.bl (decide (j.cps.toList < i.cps.toList))) H)) := op_gt.or op_gt_str
theorem op_geD : OpR X (compareOp .GtE) (fun x y H Q => (rI0 fun i j => .bl (decide (j ≤ i))) x y H Q ∨ (∃ i j, x = V.str i ∧ y = V.str j ∧ Q (.bl (!decide (i.cps.toList < j.cps.toList))) H)) := op_ge.or op_ge_str
def fLt : F2 := fCmp (fun i j => decide (i < j)) fun i j => decide (i.cps.toList < j.cps.toList)
def fLe : F2 := fCmp (fun i j => decide (i ≤ j)) fun i j => !decide (j.cps.toList < i.cps.toList)
def fGt : F2 := fCmp (fun i j => decide (j < i)) fun i j => decide (j.cps.toList < i.cps.toList)
def fGe : F2 := fCmp (fun i j => decide (j ≤ i)) fun i j => !decide (i.cps.toList < j.cps.toList)
end
end DL
end

-- part DL3
section
namespace DL
open PySem L2

/-! ### built-ins by data -/
section
variable {K : PySem.W.Frag}
abbrev FB := Mu → List D → (D → Prop) → Prop
def CallD (K : PySem.W.Frag) (r : List V → Hp → VK → Prop) (f : FB) : Prop := ∀ (ds : List D) (vs : List V) (H : Hp) (μ : Mu) (P : D → Prop) (Q : VK), Wd K H μ → RpAll K (hide H μ) vs ds → f μ ds P →
  (∀ z vz H', P z → Nx K H μ H' μ → Rp K (hide H' μ) vz z → Q vz H') → r vs H Q
def dB (f : FB) (A : TF (List D)) : TF D := fun ρ μ Q => A ρ μ fun ds μ1 => f μ1 ds fun z => Q z μ1
theorem cb_go {σ : L2.St} {H : Hp} {Q : VK} {f : FB} {A : TF (List D)} {r : List V → Hp → VK → Prop} (ho : CallD K r f) (h : tD K (dB f A) σ H Q) : tCB r (tDA K A) σ H Q := by
  obtain ⟨ρ, μ, Qd, s, hf, k⟩ := h
  exact Lift.go s hf fun ds μ1 vs H1 g1 s1 n1 r1 => ho ds vs H1 μ1 _ _ s1.wd r1 g1 fun z vz H2 p n2 r2 => k z μ1 vz H2 p (n1.trans n2) r2
theorem de_B {X : Cx} {x : Str} {p pos : Pos} {e : Expr} {es : List Expr} {A : TF (List D)} {id : String} {r : List V → Hp → VK → Prop} {f : FB} (hc : CallR X (.builtin id) r) (ho : CallD X.K r f) (hg : Gl X x) (hm : X.mg x = none) (hv : bootBuiltins x = some (.builtin id)) (ha : DA X (e :: es) A) (hn : x ≠ "__name__" := by decide) (hdb : (x == ("__debug__" : Str)) = false := by decide)
    (he : starEach (e :: es) X.env = (false, eval e X.env) :: starEach es X.env := by rfl) (hpl : (backTo pos (starEach es X.env)).any (·.1) = false := by rfl) : DE X (.Call (.Name x p) (e :: es) [] pos) (dB f A) := weakE (pe_callB hc hg hm hv ha hn hdb he hpl) fun _ _ _ h => cb_go ho h
theorem de_T {X : Cx} {x : Str} {p pos : Pos} {e : Expr} {es : List Expr} {A : TF (List D)} {T : String} {r : List V → Hp → VK → Prop} {f : FB} (hc : CallR X (.type T) r) (ho : CallD X.K r f) (hg : Gl X x) (hm : X.mg x = none) (hv : bootBuiltins x = some (.type T)) (ha : DA X (e :: es) A) (hn : x ≠ "__name__" := by decide) (hdb : (x == ("__debug__" : Str)) = false := by decide)
    (he : starEach (e :: es) X.env = (false, eval e X.env) :: starEach es X.env := by rfl) (hpl : (backTo pos (starEach es X.env)).any (·.1) = false := by rfl) : DE X (.Call (.Name x p) (e :: es) [] pos) (dB f A) := weakE (pe_callTy hc hg hm hv ha hn hdb he hpl) fun _ _ _ h => cb_go ho h
theorem rp1 {G : Hp} {vs : List V} {d : D} (r : RpAll K G vs [d]) : ∃ v, vs = [v] ∧ Rp K G v d := by
  cases r with
  | cons r t => cases t; exact ⟨_, rfl, r⟩
theorem rp2 {G : Hp} {vs : List V} {d e : D} (r : RpAll K G vs [d, e]) : ∃ v u, vs = [v, u] ∧ Rp K G v d ∧ Rp K G u e := by
  cases r with
  | cons r t =>
    cases t with
    | cons r' t => cases t; exact ⟨_, _, rfl, r, r'⟩
/-- len -/
def fLen : FB := fun μ ds P => match ds with
  | [.lst a] => P (.int a.length)
  | [.tup a] => P (.int a.length)
  | [.str a] => P (.int a.length)
  | [.ptr p] => ∃ a, μ p = some (.lst a) ∧ P (.int a.length)
  | _ => False
theorem cd_len : CallD K (fun xs H Q => ∃ x n, xs = [x] ∧ LenV K x H n ∧ Q (.int n) H) fLen := by
  intro ds vs H μ P Q w r q k
  unfold fLen at q
  split at q
  · obtain ⟨v, rfl, r1⟩ := rp1 r
    cases r1 with
    | lst ha ra za => exact ⟨_, _, rfl, .inl ⟨_, SqL.of (hide_in ha), rfl⟩, by rw [ra.length]; exact k _ _ H q (Nx.refl w) (.int _)⟩
  · obtain ⟨v, rfl, r1⟩ := rp1 r
    cases r1 with
    | tup ha ra za => exact ⟨_, _, rfl, .inr ⟨_, SqT.of (hide_in ha), rfl⟩, by rw [ra.length]; exact k _ _ H q (Nx.refl w) (.int _)⟩
  · obtain ⟨v, rfl, r1⟩ := rp1 r
    cases r1 with
    | str x hx => exact ⟨_, _, rfl, ⟨hx.1, rfl⟩, k _ _ H q (Nx.refl w) (.int _)⟩
  · obtain ⟨v, rfl, r1⟩ := rp1 r
    obtain ⟨a, hp, q⟩ := q
    obtain ⟨xs, e, ra, za⟩ := w _ _ hp
    cases r1
    exact ⟨_, _, rfl, .inl ⟨_, SqL.of e, rfl⟩, by rw [ra.length]; exact k _ _ H q (Nx.refl w) (.int _)⟩
  · exact q.elim
/-- list -/
def fList : FB := fun μ ds P => match ds with
  | [.lst a] => P (.lst a)
  | [.tup a] => P (.lst a)
  | [.scr ns] => ns.length ≤ sizeLine ∧ P (.lst (ns.map D.int))
  | [.ptr p] => ∃ a, μ p = some (.lst a) ∧ P (.lst a)
  | _ => False
theorem rp_ints {G : Hp} : ∀ ns : List Int, RpAll K G (ns.map V.int) (ns.map D.int)
  | [] => .nil
  | n :: ns => .cons (.int n) (rp_ints ns)
theorem cd_list : CallD K (fun xs H Q => ∃ p ys, xs = [.ref p] ∧ (SqL K H p ys ∨ SqT K H p ys) ∧ ∀ l, H l = none → Q (.ref l) (upd H l (.lst ys))) fList := by
  intro ds vs H μ P Q w r q k
  have fin : ∀ (xs : List V) (a : List D), RpAll K (hide H μ) xs a → a.length ≤ sizeLine → P (.lst a) → ∀ l, H l = none → Q (.ref l) (upd H l (.lst xs)) := fun xs a ra za q l hl => by
    have n : Nx K H μ (upd H l (.lst xs)) μ := Nx.new w hl
    exact k _ _ _ q n (.lst (new_at (w.free hl)) (ra.mono n.ext) za)
  unfold fList at q
  split at q
  · obtain ⟨v, rfl, r1⟩ := rp1 r
    cases r1 with
    | lst ha ra za => exact ⟨_, _, rfl, .inl (SqL.of (hide_in ha)), fin _ _ ra za q⟩
  · obtain ⟨v, rfl, r1⟩ := rp1 r
    cases r1 with
    | tup ha ra za => exact ⟨_, _, rfl, .inr (SqT.of (hide_in ha)), fin _ _ ra za q⟩
  · obtain ⟨v, rfl, r1⟩ := rp1 r
    cases r1 with
    | @scr a ns' h =>
      refine ⟨_, _, rfl, .inl ?_, fin _ _ (rp_ints _) (by simpa using q.1) q.2⟩
      rcases h with h | h
      · rcases h with h | ⟨o, h⟩
        · exact .inl (.inl (hide_in h))
        · exact .inl (.inr ⟨o, hide_in h⟩)
      · exact .inr h
  · obtain ⟨v, rfl, r1⟩ := rp1 r
    obtain ⟨a, hp, q⟩ := q
    obtain ⟨xs, e, ra, za⟩ := w _ _ hp
    cases r1
    exact ⟨_, _, rfl, .inl (SqL.of e), fin _ _ ra za q⟩
  · exact q.elim
/-- tuple -/
def fTuple : FB := fun μ ds P => match ds with
  | [.lst a] => P (.tup a)
  | [.tup a] => P (.tup a)
  | [.ptr p] => ∃ a, μ p = some (.lst a) ∧ P (.tup a)
  | _ => False
theorem cd_tuple : CallD K (fun xs H Q => ∃ p ys, xs = [.ref p] ∧ ((SqL K H p ys ∧ ∀ l, H l = none → Q (.ref l) (upd H l (.tup ys))) ∨ (SqT K H p ys ∧ Q (.ref p) H))) fTuple := by
  intro ds vs H μ P Q w r q k
  have fin : ∀ (xs : List V) (a : List D), RpAll K (hide H μ) xs a → a.length ≤ sizeLine → P (.tup a) → ∀ l, H l = none → Q (.ref l) (upd H l (.tup xs)) := fun xs a ra za q l hl => by
    have n : Nx K H μ (upd H l (.tup xs)) μ := Nx.new w hl
    exact k _ _ _ q n (.tup (new_at (w.free hl)) (ra.mono n.ext) za)
  unfold fTuple at q
  split at q
  · obtain ⟨v, rfl, r1⟩ := rp1 r
    cases r1 with
    | lst ha ra za => exact ⟨_, _, rfl, .inl ⟨SqL.of (hide_in ha), fin _ _ ra za q⟩⟩
  · obtain ⟨v, rfl, r1⟩ := rp1 r
    cases r1 with
    | tup ha ra za => exact ⟨_, _, rfl, .inr ⟨SqT.of (hide_in ha), k _ _ H q (Nx.refl w) (.tup ha ra za)⟩⟩
  · obtain ⟨v, rfl, r1⟩ := rp1 r
    obtain ⟨a, hp, q⟩ := q
    obtain ⟨xs, e, ra, za⟩ := w _ _ hp
    cases r1
    exact ⟨_, _, rfl, .inl ⟨SqL.of e, fin _ _ ra za q⟩⟩
  · exact q.elim
/-- int(n), abs(n), max(a, b), min(a, b) -/
def fInt : FB := fun _ ds P => match ds with
  | [.int i] => P (.int i)
  | [.bl b] => P (.int (if b then 1 else 0))
  | _ => False
theorem cd_int : CallD K (fun xs H Q => (∃ i, xs = [.int i] ∧ Q (.int i) H) ∨ ∃ k, xs = [.bl k] ∧ Q (.int (if k then 1 else 0)) H) fInt := by
  intro ds vs H μ P Q w r q k
  unfold fInt at q
  split at q
  · obtain ⟨v, rfl, r1⟩ := rp1 r
    cases r1
    exact .inl ⟨_, rfl, k _ _ H q (Nx.refl w) (.int _)⟩
  · obtain ⟨v, rfl, r1⟩ := rp1 r
    cases r1
    exact .inr ⟨_, rfl, k _ _ H q (Nx.refl w) (.int _)⟩
  · exact q.elim
def fI1 (g : Int → Int) : FB := fun _ ds P => match ds with
  | [.int i] => P (.int (g i))
  | _ => False
def fI2 (g : Int → Int → Int) : FB := fun _ ds P => match ds with
  | [.int i, .int j] => P (.int (g i j))
  | _ => False
theorem cd_i1 {g : Int → Int} : CallD K (fun xs H Q => ∃ i, xs = [.int i] ∧ Q (.int (g i)) H) (fI1 g) := by
  intro ds vs H μ P Q w r q k
  unfold fI1 at q
  split at q
  · obtain ⟨v, rfl, r1⟩ := rp1 r
    cases r1
    exact ⟨_, rfl, k _ _ H q (Nx.refl w) (.int _)⟩
  · exact q.elim
theorem cd_i2 {g : Int → Int → Int} : CallD K (fun xs H Q => ∃ i j, xs = [.int i, .int j] ∧ Q (.int (g i j)) H) (fI2 g) := by
  intro ds vs H μ P Q w r q k
  unfold fI2 at q
  split at q
  · obtain ⟨v, u, rfl, r1, r2⟩ := rp2 r
    cases r1; cases r2
    exact ⟨_, _, rfl, k _ _ H q (Nx.refl w) (.int _)⟩
  · exact q.elim
def absI (i : Int) : Int := if i < 0 then -i else i
def maxI (i j : Int) : Int := if j > i then j else i
def minI (i j : Int) : Int := if j < i then j else i
def fAbs : FB := fI1 absI
def fMax2 : FB := fI2 maxI
def fMin2 : FB := fI2 minI
theorem cd_abs : CallD K (fun xs H Q => ∃ i, xs = [V.int i] ∧ Q (.int (if i < 0 then -i else i)) H) fAbs := cd_i1 (g := absI)
theorem cd_max2 : CallD K (fun xs H Q => ∃ i j, xs = [V.int i, .int j] ∧ Q (.int (if j > i then j else i)) H) fMax2 := cd_i2 (g := maxI)
theorem cd_min2 : CallD K (fun xs H Q => ∃ i j, xs = [V.int i, .int j] ∧ Q (.int (if j < i then j else i)) H) fMin2 := cd_i2 (g := minI)
/-- all(xs), any(xs): a list of truth values -/
def bls : List D → Option (List Bool)
  | [] => some []
  | .bl b :: ds => (bls ds).map (b :: ·)
  | _ :: _ => none
theorem bls_of {G : Hp} : ∀ {vs : List V} {ds : List D} {bs : List Bool}, RpAll K G vs ds → bls ds = some bs → vs = bs.map V.bl
  | _, _, _, .nil, h => by cases h; rfl
  | _, _, bs, .cons (ds := ds) r t, h => by
    cases r <;> simp only [bls] at h <;> try (cases h; done)
    rename_i b
    cases q : bls ds with
    | none => rw [q] at h; cases h
    | some cs => rw [q] at h; cases h; rw [bls_of t q]; rfl
def fAll : FB := fun _ ds P => match ds with
  | [.lst a] => ∃ bs, bls a = some bs ∧ P (.bl (bs.all id))
  | _ => False
def fAny : FB := fun _ ds P => match ds with
  | [.lst a] => ∃ bs, bls a = some bs ∧ P (.bl (bs.any id))
  | _ => False
theorem cd_all : CallD K (rAll K) fAll := by
  intro ds vs H μ P Q w r q k
  unfold fAll at q
  split at q
  · obtain ⟨v, rfl, r1⟩ := rp1 r
    obtain ⟨bs, e, q⟩ := q
    cases r1 with
    | lst ha ra za => exact ⟨_, bs, rfl, by rw [← bls_of ra e]; exact SqL.of (hide_in ha), k _ _ H q (Nx.refl w) (.bl _)⟩
  · exact q.elim
theorem cd_any : CallD K (rAny K) fAny := by
  intro ds vs H μ P Q w r q k
  unfold fAny at q
  split at q
  · obtain ⟨v, rfl, r1⟩ := rp1 r
    obtain ⟨bs, e, q⟩ := q
    cases r1 with
    | lst ha ra za => exact ⟨_, bs, rfl, by rw [← bls_of ra e]; exact SqL.of (hide_in ha), k _ _ H q (Nx.refl w) (.bl _)⟩
  · exact q.elim
/-- isinstance -/
def tyD : D → Option String
  | .non => some "NoneType"
  | .bl _ => some "bool"
  | .int _ => some "int"
  | .str _ => some "str"
  | .tup _ => some "tuple"
  | .lst _ => some "list"
  | _ => none
def isA (t n : String) : Bool := t == n || (t == "bool" && n == "int")
def inTys : List D → Option (List String)
  | [] => some []
  | .ty n :: ds => (inTys ds).map (n :: ·)
  | _ :: _ => none
def okTy (n : String) : Bool := n == "list" || n == "tuple" || n == "bool" || n == "str" || n == "int"
def fIsi : FB := fun _ ds P => match ds with
  | [d, .ty n] => ∃ t, tyD d = some t ∧ okTy n = true ∧ P (.bl (isA t n))
  | [d, .tup ts] => ∃ t ns, tyD d = some t ∧ inTys ts = some ns ∧ ns.all okTy = true ∧ P (.bl (ns.any (isA t)))
  | _ => False
theorem tyX_of {H : Hp} {μ : Mu} {v : V} {d : D} {t : String} (r : Rp K (hide H μ) v d) (h : tyD d = some t) : TyX K H v (.type t) := by
  cases r <;> simp only [tyD] at h <;> try (cases h; done)
  · cases h; exact .base .non
  · cases h; exact .base (.bl _)
  · cases h; exact .base (.int _)
  · cases h; exact .base (.str _)
  · cases h; rename_i ha _ _; exact .base (.tup (hide_in ha))
  · cases h; rename_i ha _ _; exact .base (.lst (hide_in ha))
theorem isA_ok {d : D} {t n : String} (h : tyD d = some t) (hn : okTy n = true) : PySem.W.kitOne K (.type t) (.type n) = some (isA t n) := by
  have hn' : n = "list" ∨ n = "tuple" ∨ n = "bool" ∨ n = "str" ∨ n = "int" := by
    simp only [okTy, Bool.or_eq_true, beq_iff_eq] at hn
    rcases hn with (((h | h) | h) | h) | h <;> simp [h]
  have ht : t = "NoneType" ∨ t = "bool" ∨ t = "int" ∨ t = "str" ∨ t = "tuple" ∨ t = "list" := by
    cases d <;> simp only [tyD] at h <;> cases h <;> simp
  refine kit_ty ?_
  rcases hn' with rfl | rfl | rfl | rfl | rfl <;> rcases ht with rfl | rfl | rfl | rfl | rfl | rfl <;> decide +kernel
theorem inTys_of {G : Hp} : ∀ {vs : List V} {ds : List D} {ns : List String}, RpAll K G vs ds → inTys ds = some ns → Paired ClsV vs (ns.map Value.type)
  | _, _, _, .nil, h => by cases h; exact .nil
  | _, _, ns, .cons (ds := ds) r t, h => by
    cases r <;> simp only [inTys] at h <;> try (cases h; done)
    rename_i n
    cases q : inTys ds with
    | none => rw [q] at h; cases h
    | some cs => rw [q] at h; cases h; exact .cons (.ty _) (inTys_of t q)
theorem kitAny_of {d : D} {t : String} (h : tyD d = some t) : ∀ ns : List String, ns.all okTy = true → PySem.W.kitAny K (.type t) (ns.map Value.type) = some (ns.any (isA t))
  | [], _ => rfl
  | n :: ns, hn => by
    simp only [List.all_cons, Bool.and_eq_true] at hn
    refine kitAny_cons (isA_ok h hn.1) (fun e => ?_) fun e => ?_
    · rw [List.any_cons, e, Bool.false_or]; exact kitAny_of h ns hn.2
    · rw [List.any_cons, e, Bool.true_or]
def rIsiD (K : PySem.W.Frag) : List V → Hp → VK → Prop := fun xs H Q => rIsi K xs H Q ∨ rIsiT K xs H Q
theorem call_isiD {X : Cx} : CallR X (.builtin "isinstance") (rIsiD X.K) := call_isi.or call_isiT
theorem cd_isi : CallD K (rIsiD K) fIsi := by
  intro ds vs H μ P Q w r q k
  unfold fIsi at q
  split at q
  · obtain ⟨v, u, rfl, r1, r2⟩ := rp2 r
    obtain ⟨t, e, hn, q⟩ := q
    cases r2
    exact .inl ⟨_, _, _, _, _, rfl, .ty _, tyX_of r1 e, isA_ok e hn, k _ _ H q (Nx.refl w) (.bl _)⟩
  · obtain ⟨v, u, rfl, r1, r2⟩ := rp2 r
    obtain ⟨t, ns, e, ens, hn, q⟩ := q
    cases r2 with
    | tup ha ra za => exact .inr ⟨_, _, _, _, _, _, rfl, hide_in ha, inTys_of ra ens, tyX_of r1 e, kitAny_of e ns hn, k _ _ H q (Nx.refl w) (.bl _)⟩
  · exact q.elim
end

/-! ### slices -/
section
variable {X : Cx} {pos p2 : Pos} {e : Expr} {lo hi : Option Expr} {F : TF D} {L U : TF (Option Int)}
def oNone : TF (Option Int) := fun _ μ Q => Q none μ
def oSome (F : TF D) : TF (Option Int) := fun ρ μ Q => F ρ μ fun d μ1 => ∃ i, d = .int i ∧ Q (some i) μ1
def RO : Hp → Option Int → Option Int → Prop := fun _ b c => b = c
abbrev DOp (X : Cx) (e : Option Expr) (F : TF (Option Int)) : Prop := PO X e (Lift X.K RO F)
theorem do_none : DOp X none oNone := weakO po_none fun σ H Q ⟨ρ, μ, Qd, s, hf, k⟩ => k none μ none H hf (Nx.refl s.wd) rfl
theorem do_some (h : DE X e F) : DOp X (some e) (oSome F) := weakO (po_some h) fun σ H Q ⟨ρ, μ, Qd, s, hf, k⟩ => Lift.go s hf fun d μ1 v H1 ⟨i, e, g⟩ s1 n1 r => by subst e; cases r; exact ⟨i, rfl, k (some i) μ1 _ H1 g n1 rfl⟩
def cutD {α : Type} (xs : List α) (lo hi : Option Int) : List α := (xs.drop (HT.sIx xs.length 0 lo)).take (HT.sIx xs.length xs.length hi - HT.sIx xs.length 0 lo)
theorem cutD_length {α : Type} (xs : List α) (lo hi : Option Int) : (cutD xs lo hi).length ≤ xs.length := by
  unfold cutD; rw [List.length_take, List.length_drop]; omega
theorem rp_cut {K : PySem.W.Frag} {G : Hp} {vs : List V} {ds : List D} (r : RpAll K G vs ds) (lo hi : Option Int) : RpAll K G (cutV vs lo hi) (cutD ds lo hi) := by
  unfold cutV cutD; rw [r.length]; exact (r.drop _).take _
theorem cut_whole {α : Type} (xs : List α) {lo hi : Option Int} (h : HT.sIx xs.length 0 lo = 0 ∧ HT.sIx xs.length xs.length hi = xs.length) : cutD xs lo hi = xs := by
  unfold cutD; rw [h.1, h.2]; simp
theorem sok_cut {s : Str} (h : SOk s) (lo hi : Option Int) : SOk (cutS s lo hi) := by
  refine ⟨Nat.le_trans (cutS_length s lo hi) h.1, ?_⟩
  have h3 := h.2
  unfold PyData.strOk cutS at *
  rw [Array.all_eq_true'] at h3 ⊢
  intro c hc
  refine h3 c ?_
  have hc' : c ∈ ((s.cps.toList.drop (HT.sIx s.length 0 lo)).take (HT.sIx s.length s.length hi - HT.sIx s.length 0 lo)) := by simpa using hc
  have := List.mem_of_mem_drop (List.mem_of_mem_take hc')
  simpa using this
def fSl (d : D) (lo hi : Option Int) (P : D → Prop) : Prop := match d with
  | .lst ds => P (.lst (cutD ds lo hi))
  | .tup ds => P (.tup (cutD ds lo hi))
  | .str s => P (.str (cutS s lo hi))
  | _ => False
def dSl (F : TF D) (L U : TF (Option Int)) : TF D := fun ρ μ Q => F ρ μ fun d μ1 => L ρ μ1 fun l μ2 => U ρ μ2 fun u μ3 => fSl d l u fun z => Q z μ3
def rSlD (K : PySem.W.Frag) : V → Option Int → Option Int → Hp → VK → Prop := fun x lo hi H Q => (fun x lo hi H Q => rSlL K x lo hi H Q ∨ rSlA K x lo hi H Q) x lo hi H Q ∨ rSlS x lo hi H Q
theorem sl_D : SlR X (rSlD X.K) := (sl_list.or sl_tupA).or sl_str
theorem de_sl (h : DE X e F) (hl : DOp X lo L) (hu : DOp X hi U) : DE X (.Subscript e (.Slice lo hi none p2) pos) (dSl F L U) := by
  refine weakE (pe_slice sl_D h hl hu) fun σ H Q ⟨ρ, μ, Qd, s, hf, k⟩ => Lift.go s hf fun d μ1 v H1 g1 s1 n1 r1 => Lift.go (F := L) (R := RO) s1 g1 fun l μ2 l' H2 g2 s2 n2 e2 => Lift.go (F := U) (R := RO) s2 g2 fun u μ3 u' H3 g3 s3 n3 e3 => ?_
  cases (show l' = l from e2)
  cases (show u' = u from e3)
  have r3 := r1.mono (n2.trans n3).ext
  have n := (n1.trans n2).trans n3
  cases r3 with
  | str x hx => exact .inr ⟨x, rfl, hx.1, k _ μ3 _ H3 g3 n (.str _ (sok_cut hx l u))⟩
  | @lst a xs ds ha ra za =>
    refine .inl (.inl ⟨_, _, rfl, SqL.of (hide_in ha), fun p hp => ?_⟩)
    have m : Nx X.K H3 μ3 (upd H3 p (.lst (cutV xs l u))) μ3 := Nx.new s3.wd hp
    exact k _ μ3 _ _ g3 (n.trans m) (.lst (new_at (s3.wd.free hp)) ((rp_cut ra l u).mono m.ext) (Nat.le_trans (cutD_length _ l u) za))
  | @tup a xs ds ha ra za =>
    refine .inl (.inr ⟨_, _, rfl, SqT.of (hide_in ha), fun hw => ?_, fun hw p hp => ?_⟩)
    · rw [ra.length] at hw
      have g3' := g3
      unfold fSl at g3'
      simp only [cut_whole _ hw] at g3'
      exact k _ μ3 _ H3 g3' n (.tup ha ra za)
    · have m : Nx X.K H3 μ3 (upd H3 p (.tup (cutV xs l u))) μ3 := Nx.new s3.wd hp
      exact k _ μ3 _ _ g3 (n.trans m) (.tup (new_at (s3.wd.free hp)) ((rp_cut ra l u).mono m.ext) (Nat.le_trans (cutD_length _ l u) za))
  | non => exact False.elim g3
  | bl _ => exact False.elim g3
  | int _ => exact False.elim g3
  | ptr _ => exact False.elim g3
  | scr _ => exact False.elim g3
  | ty _ => exact False.elim g3
/-- -a -/
def fNeg (d : D) (P : D → Prop) : Prop := match d with
  | .int i => P (.int (-i))
  | _ => False
def dNeg (F : TF D) : TF D := fun ρ μ Q => F ρ μ fun d μ1 => fNeg d fun z => Q z μ1
theorem de_neg (h : DE X e F) : DE X (.UnaryOp .USub e pos) (dNeg F) :=
  weakE (pe_un un_neg h) fun σ H Q ⟨ρ, μ, Qd, s, hf, k⟩ => Lift.go s hf fun d μ1 v H1 g1 s1 n1 r1 => by
    cases r1 <;> first | exact False.elim g1 | exact ⟨_, rfl, k _ μ1 _ H1 g1 n1 (.int _)⟩
/-- a op b op' c -/
def dChn (f f' : F2) (Fa Fb Fc : TF D) : TF D := fun ρ μ Q => Fa ρ μ fun x μ1 => Fb ρ μ1 fun y μ2 => f μ2 x y fun z => ∃ b, z = .bl b ∧ if b = true then Fc ρ μ2 fun w' μ3 => f' μ3 y w' fun z => Q z μ3 else Q (.bl false) μ2
theorem de_chain {op op' : CmpOp} {r r' : R2} {f f' : F2} {a b c : Expr} {Fa Fb Fc : TF D} (ho : OpR X (compareOp op) r) (ho' : OpR X (compareOp op') r') (hf : OpD X.K r f) (hf' : OpD X.K r' f') (ha : DE X a Fa) (hb : DE X b Fb) (hc : DE X c Fc) (hm : lastMarks [op, op'] [b, c] = false := by rfl) :
    DE X (.Compare a [op, op'] [b, c] pos) (dChn f f' Fa Fb Fc) := by
  refine weakE (pe_chain ho ho' ha hb hc hm) fun σ H Q ⟨ρ, μ, Qd, s, g, k⟩ => Lift.go s g fun x μ1 vx H1 g1 s1 n1 r1 => Lift.go s1 g1 fun y μ2 vy H2 g2 s2 n2 r2 => ?_
  refine hf x y vx vy H2 μ2 _ _ s2.wd (r1.mono n2.ext) r2 g2 fun z vz H3 ⟨b, e, g3⟩ n3 r3 => ?_
  subst e
  cases r3
  refine ⟨b, rfl, ?_⟩
  have s3 := s2.next n3
  cases b with
  | true => exact Lift.go s3 g3 fun w' μ4 vw H4 g4 s4 n4 r4 => hf' y w' vy vw H4 μ4 _ _ s4.wd (r2.mono (n3.trans n4).ext) r4 g4 fun z vz H5 p n5 r5 => k z μ4 vz H5 p ((((n1.trans n2).trans n3).trans n4).trans n5) r5
  | false => exact k _ μ2 _ H3 g3 ((n1.trans n2).trans n3) (.bl false)
end
end DL
end

-- part DL4
section
namespace DL
open PySem L2

/-! ### targets -/
abbrev TGD := D → Env → (Env → Prop) → Prop
def gD (K : PySem.W.Frag) (slots : List Nat) (g : TGD) : TG := fun v σ H Q => ∃ (ρ : Env) (μ : Mu) (d : D) (k : Env → Prop), StOk K H μ σ ρ ∧ Rp K (hide H μ) v d ∧ g d ρ k ∧
  ∀ ρ' σ', k ρ' → StOk K H μ σ' ρ' → σ'.length = σ.length → (∀ j, j ∉ slots → σ'[j]? = σ[j]?) → Q σ' H
abbrev DG (X : Cx) (tg : Expr) (slots : List Nat) (g : TGD) : Prop := PG X tg (gD X.K slots g)
theorem weakG {X : Cx} {tg : Expr} {t t' : TG} (h : PG X tg t) (w : ∀ v σ H Q, t' v σ H Q → t v σ H Q) : PG X tg t' := ⟨fun pins s σ H v u Q I r q => h.run pins s σ H v u Q I r (w v σ H Q q)⟩
def gN (i : Nat) : TGD := fun d ρ k => k (ρ.set i (some d))
theorem dg_name (i : Nat) {X : Cx} {x : Str} {pos : Pos} (hN : X.N.Nodup) (hi : X.N[i]? = some x := by rfl) (hx : Loc X.env.scope x := by first | exact Or.inl rfl | exact Or.inr rfl) (hf : X.fn x = true ∨ X.env.scope.names.lookup x = some .local := by first | exact .inl rfl | exact .inr rfl | assumption) : DG X (.Name x pos) [i] (gN i) :=
  weakG (pg_name hN hi hx hf) fun v σ H Q ⟨ρ, μ, d, k, s, r, g, kk⟩ => kk _ _ g (s.set r i) (by rw [List.length_set]) fun j hj => List.getElem?_set_ne (fun e => hj (by simp [e]))
def gNames : List Nat → TGs
  | [] => gNil
  | i :: is => gCons (gName i) (gNames is)
def setAll : Env → List Nat → List D → Env
  | ρ, i :: is, d :: ds => setAll (ρ.set i (some d)) is ds
  | ρ, _, _ => ρ
def gT (is : List Nat) : TGD := fun d ρ k => ∃ ds, d = .tup ds ∧ ds.length = is.length ∧ k (setAll ρ is ds)
theorem gNames_go {K : PySem.W.Frag} {H : Hp} {μ : Mu} : ∀ (is : List Nat) (vs : List V) (ds : List D) (σ : L2.St) (ρ : Env) (Q : L2.St → Hp → Prop), StOk K H μ σ ρ → RpAll K (hide H μ) vs ds → ds.length = is.length →
    (∀ σ', StOk K H μ σ' (setAll ρ is ds) → σ'.length = σ.length → (∀ j, j ∉ is → σ'[j]? = σ[j]?) → Q σ' H) → gNames is vs σ H Q
  | [], vs, ds, σ, ρ, Q, s, r, hl, k => by
    have : ds = [] := List.length_eq_zero_iff.mp hl
    subst this
    cases r
    exact ⟨rfl, k σ s rfl fun _ _ => rfl⟩
  | i :: is, vs, ds, σ, ρ, Q, s, r, hl, k => by
    cases r with
    | nil => cases hl
    | @cons v vs d ds r t =>
      refine ⟨v, vs, rfl, gNames_go is vs ds _ (ρ.set i (some d)) Q (s.set r i) t (by simpa using hl) fun σ' s' h1 h2 => k σ' s' (by rw [h1, List.length_set]) fun j hj => ?_⟩
      rw [h2 j (fun m => hj (List.mem_cons_of_mem _ m)), List.getElem?_set_ne (fun e => hj (by simp [e]))]
theorem dg_tup (is : List Nat) {X : Cx} {es : List Expr} {k : Nat} {pos : Pos} (hc : X.calm = true) (h : PGs X es (gNames is)) (hn : (assignEach es X.env).length = is.length := by rfl) (hst : (assignEach es X.env).findIdx? (·.1) = none := by rfl) : DG X (.Tuple es k pos) is (gT is) :=
  weakG (pg_tup hc h hn hst) fun v σ H Q ⟨ρ, μ, d, k, s, r, ⟨ds, e, hl, g⟩, kk⟩ => by
    subst e
    cases r with
    | tup ha ra za => exact ⟨_, _, rfl, SqT.of (hide_in ha), ra.length.trans hl, gNames_go is _ ds σ ρ Q s ra hl fun σ' s' h1 h2 => kk _ σ' g s' h1 h2⟩
/-- target = value -/
def sAsg (F : TF D) (g : TGD) : TSD := fun E ρ μ => F ρ μ fun d μ1 => g d ρ fun ρ' => E.nx ρ' μ1
theorem ds_asg {X : Cx} {tg e : Expr} {F : TF D} {slots : List Nat} {g : TGD} {pos : Pos} (he : DE X e F) (hg : DG X tg slots g) (hs : swapsWithSole [tg] e pos.line X.env = pure false := by rfl) (hw : swappedStores [tg] e X.env = pure none := by rfl)
    (h1 : (assignEach [tg] X.env).map (·.2) = [assign tg X.env] := by rfl) : DS X (.Assign [tg] e pos) (sAsg F g) :=
  weakS (ps_asg he hg hs hw h1) fun D' σ H ⟨ρ, μ, E, s, f, c⟩ => Lift.go s f fun d μ1 v H1 g1 s1 n1 r1 => ⟨ρ, μ1, d, _, s1, r1, g1, fun ρ' σ' k s' _ _ => c.nx ρ' μ1 σ' H1 k s' n1⟩

/-! ### what a loop walks -/
def Yields (K : PySem.W.Frag) (J : It) (H : Hp) (μ : Mu) (ds : List D) : Prop := ds.length ≤ sizeLine ∧ ∀ H' μ', Nx K H μ H' μ' → ∀ i : Nat,
  (ds.length ≤ i → J.stop i H') ∧ ∀ d, ds[i]? = some d → J.go i H' ∧ ∀ x H2, J.yld i H' x H2 → Nx K H' μ' H2 μ' ∧ Rp K (hide H2 μ') x d
def tTI (K : PySem.W.Frag) (F : TF (List D)) : TI := fun σ H R => ∃ (ρ : Env) (μ : Mu) (Qd : List D → Mu → Prop), StOk K H μ σ ρ ∧ F ρ μ Qd ∧ ∀ ds μ' J H', Qd ds μ' → Nx K H μ H' μ' → Yields K J H' μ' ds → R J H'
abbrev DI (X : Cx) (tg e : Expr) (F : TF (List D)) : Prop := PI X tg e (tTI X.K F)
section
variable {K : PySem.W.Frag}
theorem Yields.after {J : It} {H H' : Hp} {μ μ' : Mu} {ds : List D} (y : Yields K J H μ ds) (n : Nx K H μ H' μ') : Yields K J H' μ' ds := ⟨y.1, fun H2 μ2 m i => y.2 H2 μ2 (n.trans m) i⟩
theorem yields_l {H : Hp} {μ : Mu} {a : Addr} {xs : List V} {ds : List D} (ha : hide H μ a = some (.lst xs)) (ra : RpAll K (hide H μ) xs ds) (za : ds.length ≤ sizeLine) : Yields K (Itl K a) H μ ds := ⟨za, fun H' μ' n i => by
  have q : SqL K H' a xs := SqL.of (hide_in (n.ext _ _ ha))
  refine ⟨fun hi => ⟨xs, q, by rw [ra.length]; exact hi⟩, fun d hd => ?_⟩
  obtain ⟨v, h1, h2⟩ := ra.get hd
  refine ⟨⟨xs, v, q, h1⟩, fun x H2 ⟨e, y⟩ => ?_⟩
  subst e
  have := y xs q
  rw [h1] at this
  cases this
  exact ⟨Nx.refl n.wd, h2.mono n.ext⟩⟩
theorem yields_t {H : Hp} {μ : Mu} {a : Addr} {xs : List V} {ds : List D} (ha : hide H μ a = some (.tup xs)) (ra : RpAll K (hide H μ) xs ds) (za : ds.length ≤ sizeLine) : Yields K (Itt K a) H μ ds := ⟨za, fun H' μ' n i => by
  have q : SqT K H' a xs := SqT.of (hide_in (n.ext _ _ ha))
  refine ⟨fun hi => ⟨xs, q, by rw [ra.length]; exact hi⟩, fun d hd => ?_⟩
  obtain ⟨v, h1, h2⟩ := ra.get hd
  refine ⟨⟨xs, v, q, h1⟩, fun x H2 ⟨e, y⟩ => ?_⟩
  subst e
  have := y xs q
  rw [h1] at this
  cases this
  exact ⟨Nx.refl n.wd, h2.mono n.ext⟩⟩
/-- lo, lo + 1, .. -/
def rngD (lo : Int) (n : Nat) : List D := (List.range n).map fun i => .int (lo + (i : Nat))
theorem yields_r {H : Hp} {μ : Mu} {lo : Int} {n : Nat} (hz : n ≤ sizeLine) : Yields K (Itr lo n) H μ (rngD lo n) := ⟨by simpa [rngD] using hz, fun H' μ' m i => by
  refine ⟨fun hi => ?_, fun d hd => ?_⟩
  · show n ≤ i
    simpa [rngD] using hi
  · have hi : i < n := by
      have := (List.getElem?_eq_some_iff.mp hd).1
      simpa [rngD] using this
    refine ⟨hi, fun x H2 ⟨e, y⟩ => ?_⟩
    subst e; subst y
    have : d = .int (lo + (i : Nat)) := by
      unfold rngD at hd
      rw [List.getElem?_map, List.getElem?_range hi] at hd
      exact (Option.some.inj hd).symm
    subst this
    exact ⟨Nx.refl m.wd, .int _⟩⟩
end
/-- a list, a tuple -/
def iSeq (F : TF D) : TF (List D) := fun ρ μ Q => F ρ μ fun d μ1 => match d with
  | .lst ds => Q ds μ1
  | .tup ds => Q ds μ1
  | _ => False
section
variable {X : Cx} {tg : Expr}
theorem pi_or {l : Expr} {tl : TE} (hl : PE X l tl) : PI X tg l (fun σ H R => tl σ H fun x H1 => (∃ a, x = .ref a ∧ (∃ xs, SqL X.K H1 a xs) ∧ R (Itl X.K a) H1) ∨ ∃ a, x = .ref a ∧ (∃ xs, SqT X.K H1 a xs) ∧ R (Itt X.K a) H1) := by
  constructor
  intro pins s σ H R I h
  -- either kind begins a walk of its own kind: pi_one lays the iterator
  refine thn (hl.run pins s σ H _ I h) ?_
  rintro v s1 ⟨x, H1, I1, r1, ⟨a, rfl, ⟨xs, hq⟩, q⟩ | ⟨a, rfl, ⟨xs, hq⟩, q⟩⟩ <;> cases r1
  · have ⟨its, _, isList, _⟩ := I1.list hq
    exact PySem.wpAny_pyIter_list isList.isList (pi_one I1 _ (turn_list a _) ⟨_, Heap.get?_push_size _ rfl, rfl, rfl⟩ q)
  · have ⟨its, _, isTup, _⟩ := I1.tuple hq
    exact PySem.wpAny_pyIter_tuple (show s1.heap.IsTuple a its.toArray from isTup) (pi_one I1 _ (turn_tuple a _) ⟨_, Heap.get?_push_size _ rfl, rfl, rfl⟩ q)
theorem di_seq {l : Expr} {F : TF D} (hl : DE X l F) : DI X tg l (iSeq F) :=
  weakI (pi_or hl) fun σ H R ⟨ρ, μ, Qd, s, hf, k⟩ => Lift.go s hf fun d μ1 v H1 g1 s1 n1 r1 => by
    cases r1 <;> try exact False.elim g1
    · rename_i ha ra za
      exact .inr ⟨_, rfl, ⟨_, SqT.of (hide_in ha)⟩, k _ μ1 _ H1 g1 n1 (yields_t ha ra za)⟩
    · rename_i ha ra za
      exact .inl ⟨_, rfl, ⟨_, SqL.of (hide_in ha)⟩, k _ μ1 _ H1 g1 n1 (yields_l ha ra za)⟩
def smI (i : Int) : Prop := -1000000 ≤ i ∧ i ≤ 1000000
theorem smI.a {i : Int} (h : smI i) : -(2 ^ 62) ≤ i ∧ i < 2 ^ 62 := ⟨by have := h.1; omega, by have := h.2; omega⟩
theorem smI.z {i : Int} (h : smI i) : i.toNat ≤ sizeLine := Nat.le_trans (by have := h.2; omega : i.toNat ≤ 1000000) (by decide)
theorem smI.z2 {i j : Int} (h : smI i) (h' : smI j) : (j - i).toNat ≤ sizeLine := Nat.le_trans (by have := h.1; have := h'.2; omega : (j - i).toNat ≤ 2000000) (by decide)
def iRg1 (A : TF (List D)) : TF (List D) := fun ρ μ Q => A ρ μ fun ds μ1 => match ds with
  | [.int n] => smI n ∧ Q (rngD 0 n.toNat) μ1
  | _ => False
def iRg2 (A : TF (List D)) : TF (List D) := fun ρ μ Q => A ρ μ fun ds μ1 => match ds with
  | [.int lo, .int n] => smI lo ∧ smI n ∧ Q (rngD lo (n - lo).toNat) μ1
  | _ => False
theorem di_rg1 {a : Expr} {A : TF (List D)} {p pos : Pos} (hg : Gl X "range") (hm : X.mg "range" = none) (ha : DA X [a] A) (hs : starEach [a] X.env = [(false, eval a X.env)] := by rfl) : DI X tg (.Call (.Name "range" p) [a] [] pos) (iRg1 A) :=
  weakI (pi_range1 hg hm ha hs) fun σ H R ⟨ρ, μ, Qd, s, hf, k⟩ => Lift.go s hf fun ds μ1 vs H1 g1 s1 n1 r1 => by
    split at g1
    · obtain ⟨v, rfl, r⟩ := rp1 r1
      cases r
      exact ⟨_, rfl, g1.1.a.1, g1.1.a.2, k _ μ1 _ H1 g1.2 n1 (yields_r g1.1.z)⟩
    · exact False.elim g1
theorem di_rg2 {a b : Expr} {A : TF (List D)} {p pos : Pos} (hg : Gl X "range") (hm : X.mg "range" = none) (ha : DA X [a, b] A) (hs : starEach [a, b] X.env = [(false, eval a X.env), (false, eval b X.env)] := by rfl) (hs2 : starEach [b] X.env = [(false, eval b X.env)] := by rfl) :
    DI X tg (.Call (.Name "range" p) [a, b] [] pos) (iRg2 A) :=
  weakI (pi_range2 hg hm ha hs hs2) fun σ H R ⟨ρ, μ, Qd, s, hf, k⟩ => Lift.go s hf fun ds μ1 vs H1 g1 s1 n1 r1 => by
    split at g1
    · obtain ⟨v, u, rfl, r, r'⟩ := rp2 r1
      cases r; cases r'
      exact ⟨_, _, rfl, ⟨g1.1.a.1, g1.1.a.2, g1.2.1.a.1, g1.2.1.a.2⟩, k _ μ1 _ H1 g1.2.2 n1 (yields_r (g1.1.z2 g1.2.1))⟩
    · exact False.elim g1
end

/-! ### for, while -/
def sFor (F : TF (List D)) (g : TGD) (body : TSD) : TSD := fun E ρ μ => F ρ μ fun ds μ1 => ∃ I : Nat → Env → Mu → Prop, I 0 ρ μ1 ∧
  (∀ i d ρ' μ', ds[i]? = some d → I i ρ' μ' → g d ρ' fun ρ2 => body { E with nx := I (i + 1), ct := I (i + 1), bk := E.nx } ρ2 μ') ∧ ∀ ρ' μ', I ds.length ρ' μ' → E.nx ρ' μ'
theorem ds_for {X : Cx} {pos : Pos} {tg iter : Expr} {body : List Stmt} {F : TF (List D)} {slots : List Nat} {g : TGD} {G : TSD} (hp : PassesOwn (model X.prog X.w) X.A X.env X.xe) (hc : X.calm = true) (hi : DI X tg iter F) (hg : DG X tg slots g) (hb : DSs X body G)
    (hs : ∀ x, foldedSetIterable iter X.env x = pure x := by intro _; rfl) : DS X (.For tg iter body [] pos) (sFor F g G) := by
  refine weakS (ps_for hp hc hi hg hb hs) fun D' σ H ⟨ρ, μ, E, s, f, c⟩ => ⟨ρ, μ, _, s, f, fun ds μ1 J H1 ⟨I, i0, step, fin⟩ n1 y => ?_⟩
  refine ⟨fun i m σ' H' => m = ds.length - i ∧ i ≤ ds.length ∧ ∃ ρ' μ', I i ρ' μ' ∧ StOk X.K H' μ' σ' ρ' ∧ Nx X.K H1 μ1 H' μ', ⟨_, rfl, Nat.zero_le _, ρ, μ1, i0, s.next n1, Nx.refl n1.wd⟩, ?_⟩
  rintro i m σ' H' ⟨rfl, hi, ρ', μ', hI, s', n'⟩
  obtain ⟨y1, y2⟩ := y.2 H' μ' n' i
  by_cases hlt : i < ds.length
  · obtain ⟨go, yl⟩ := y2 ds[i] (by simp [hlt])
    refine .inr ⟨go, fun σ2 H2 => ∃ ρ2 μ2, I (i + 1) ρ2 μ2 ∧ StOk X.K H2 μ2 σ2 ρ2 ∧ Nx X.K H1 μ1 H2 μ2, fun σ2 H2 ⟨ρ2, μ2, a, b, d⟩ => ⟨_, by omega, rfl, hlt, ρ2, μ2, a, b, d⟩, fun x H2 hx => ?_⟩
    obtain ⟨n2, r2⟩ := yl x H2 hx
    refine ⟨ρ', μ', ds[i], _, s'.next n2, r2, step i ds[i] ρ' μ' (by simp [hlt]) hI, fun ρ3 σ3 hb s3 _ _ => ⟨ρ3, μ', _, s3, hb, ?_⟩⟩
    have nn := n'.trans n2
    exact ⟨fun ρ4 μ4 σ4 H4 a s4 n4 => ⟨ρ4, μ4, a, s4, nn.trans n4⟩, fun d μ4 v H4 a n4 r4 => c.rt d μ4 v H4 a ((n1.trans nn).trans n4) r4, fun ρ4 μ4 σ4 H4 a s4 n4 => c.nx ρ4 μ4 σ4 H4 a s4 ((n1.trans nn).trans n4), fun ρ4 μ4 σ4 H4 a s4 n4 => ⟨ρ4, μ4, a, s4, nn.trans n4⟩⟩
  · have e : i = ds.length := by omega
    subst e
    exact .inl ⟨y1 (Nat.le_refl _), c.nx ρ' μ' σ' H' (fin ρ' μ' hI) s' (n1.trans n')⟩
def sWhile (A : TF Bool) (body : TSD) : TSD := fun E ρ μ => ∃ I : Nat → Env → Mu → Prop, (∃ m, I m ρ μ) ∧
  ∀ m ρ' μ', I m ρ' μ' → A ρ' μ' fun b μ2 => if b = true then body { E with nx := fun ρ2 μ3 => ∃ m', m' < m ∧ I m' ρ2 μ3, ct := fun ρ2 μ3 => ∃ m', m' < m ∧ I m' ρ2 μ3, bk := E.nx } ρ' μ2 else E.nx ρ' μ2
theorem ds_while {X : Cx} {pos : Pos} {c : Expr} {body : List Stmt} {A : TF Bool} {G : TSD} (hp : PassesOwn (model X.prog X.w) X.A X.env X.xe) (hc : DT X c A) (hb : DSs X body G) : DS X (.While c body [] pos) (sWhile A G) := by
  refine weakS (ps_while hp hc hb) fun D' σ H ⟨ρ, μ, E, s, ⟨I, ⟨m0, i0⟩, turn⟩, cn⟩ => ?_
  refine ⟨fun m σ' H' => ∃ ρ' μ', I m ρ' μ' ∧ StOk X.K H' μ' σ' ρ' ∧ Nx X.K H μ H' μ', ⟨m0, ρ, μ, i0, s, Nx.refl s.wd⟩, ?_⟩
  rintro m σ' H' ⟨ρ', μ', hI, s', n'⟩
  refine Lift.go (F := A) (R := RB) s' (turn m ρ' μ' hI) fun b μ2 v H2 g2 s2 n2 e2 => ?_
  cases (show v = b from e2)
  cases b with
  | true =>
    refine ⟨fun σ3 H3 => ∃ m', m' < m ∧ ∃ ρ3 μ3, I m' ρ3 μ3 ∧ StOk X.K H3 μ3 σ3 ρ3 ∧ Nx X.K H μ H3 μ3, fun σ3 H3 ⟨m', a, b⟩ => ⟨m', a, b⟩, ρ', μ2, _, s2, g2, ?_⟩
    have nn := n'.trans n2
    exact ⟨fun ρ4 μ4 σ4 H4 ⟨m', a, b⟩ s4 n4 => ⟨m', a, ρ4, μ4, b, s4, nn.trans n4⟩, fun d μ4 v H4 a n4 r4 => cn.rt d μ4 v H4 a (nn.trans n4) r4, fun ρ4 μ4 σ4 H4 a s4 n4 => cn.nx ρ4 μ4 σ4 H4 a s4 (nn.trans n4), fun ρ4 μ4 σ4 H4 ⟨m', a, b⟩ s4 n4 => ⟨m', a, ρ4, μ4, b, s4, nn.trans n4⟩⟩
  | false => exact cn.nx ρ' μ2 σ' H2 g2 s2 (n'.trans n2)

/-! ### comprehensions -/
def wipeE (ρ : Env) : List Nat → Env
  | [] => ρ
  | v :: vs => (wipeE ρ vs).set v none
theorem wipeE_length (ρ : Env) : ∀ vs : List Nat, (wipeE ρ vs).length = ρ.length
  | [] => rfl
  | v :: vs => by unfold wipeE; rw [List.length_set, wipeE_length ρ vs]
theorem renv_wipe {K : PySem.W.Frag} {G : Hp} {σ : L2.St} {ρ : Env} (r : Renv K G σ ρ) : ∀ vs : List Nat, Renv K G (wipe σ vs) (wipeE ρ vs)
  | [] => r
  | v :: vs => by
    have ih := renv_wipe r vs
    refine ⟨by rw [wipe_length, wipeE_length]; exact r.1, fun i d h => ?_⟩
    unfold wipeE at h
    unfold wipe
    by_cases hi : v = i
    · subst hi
      by_cases hl : v < (wipeE ρ vs).length
      · rw [List.getElem?_set_self hl] at h; cases h
      · rw [List.getElem?_eq_none (by simpa using hl)] at h; cases h
    · rw [List.getElem?_set_ne hi] at h ⊢
      exact ih.2 i d h
theorem wipe_at (σ : L2.St) : ∀ (vs : List Nat) (i : Nat), (wipe σ vs)[i]? = if i ∈ vs then (if i < σ.length then some none else none) else σ[i]?
  | [], i => by simp [wipe]
  | v :: vs, i => by
    unfold wipe
    by_cases hi : v = i
    · subst hi
      by_cases hl : v < σ.length
      · rw [List.getElem?_set_self (by rw [wipe_length]; exact hl)]; simp [hl]
      · rw [List.getElem?_eq_none (by rw [List.length_set, wipe_length]; omega)]; simp [hl]
    · rw [List.getElem?_set_ne hi, wipe_at σ vs i]
      have : (i ∈ v :: vs) = (i ∈ vs) := by simp [Ne.symm hi]
      simp only [this]
theorem wipe_same {σ σ2 : L2.St} {vs slots : List Nat} (hl : σ2.length = (wipe σ vs).length) (hj : ∀ j, j ∉ slots → σ2[j]? = (wipe σ vs)[j]?) (hs : ∀ j ∈ slots, j ∈ vs) : wipe σ2 vs = wipe σ vs := by
  apply List.ext_getElem?
  intro i
  rw [wipe_at, wipe_at]
  rw [wipe_length] at hl
  by_cases hi : i ∈ vs
  · simp only [if_pos hi, hl]
  · simp only [if_neg hi]
    rw [hj i (fun m => hi (hs i m)), wipe_at, if_neg hi]
abbrev DTs (X : Cx) (ifs : List Expr) (A : TF Bool) : Prop := PTs X ifs (tDT X.K A)
def yesD : TF Bool := fun _ μ Q => Q true μ
theorem dts_nil {X : Cx} : DTs X [] yesD := ⟨fun pins s σ H Q I ⟨ρ, μ, Qd, st, hf, k⟩ => pts_nil.run pins s σ H Q I (k true μ true H hf (Nx.refl st.wd) rfl)⟩
theorem dts_one {X : Cx} {c : Expr} {A : TF Bool} (h : DT X c A) : DTs X [c] A := pts_one h
/-- one turn: what it gives (some y), or nothing -/
def lcTurn (g : TGD) (A : TF Bool) (Fe : TF D) (ρw : Env) (d : D) (μ : Mu) (N : Option D → Mu → Prop) : Prop := g d ρw fun ρ2 => A ρ2 μ fun b μ2 => if b = true then Fe ρ2 μ2 fun y μ3 => N (some y) μ3 else N none μ2
def dLc (F : TF (List D)) (g : TGD) (A : TF Bool) (Fe : TF D) (vs : List Nat) : TF D := fun ρ μ Q => F ρ μ fun ds μ1 => ∀ p, μ1 p = none → ∃ I : Nat → Mu → Prop, I 0 (μ1.put p (.lst [])) ∧
  (∀ i d μ', ds[i]? = some d → I i μ' → lcTurn g A Fe (wipeE ρ vs) d μ' fun r μ3 => match r with
    | some y => ∃ acc, μ3 p = some (.lst acc) ∧ acc.length ≤ i ∧ I (i + 1) (μ3.put p (.lst (acc ++ [y])))
    | none => I (i + 1) μ3) ∧ ∀ μ', I ds.length μ' → ∃ acc, μ' p = some (.lst acc) ∧ Q (.lst acc) (μ'.del p)
theorem lc_go {K : PySem.W.Frag} {F : TF (List D)} {slots vs : List Nat} {g : TGD} {A : TF Bool} {Fe : TF D} (hs : ∀ j ∈ slots, j ∈ vs) {σ : L2.St} {H : Hp} {Q : VK} (h : tD K (dLc F g A Fe vs) σ H Q) : tLc (tTI K F) (gD K slots g) (tDT K A) (tD K Fe) vs σ H Q := by
  obtain ⟨ρ, μ, Qd, s, f, k⟩ := h
  refine ⟨ρ, μ, _, s, f, fun ds μ1 J H1 gg n1 y p hp => ?_⟩
  have hz := y.1
  have hm := n1.wd.free hp
  obtain ⟨I, i0, step, fin⟩ := gg p hm
  have n0 : Nx K H1 μ1 (upd H1 p (.lst [])) (μ1.put p (.lst [])) := Nx.put n1.wd (fun _ => hp) ⟨[], rfl, .nil, by show 0 ≤ sizeLine; decide⟩
  refine ⟨fun i m H' => m = ds.length - i ∧ i ≤ ds.length ∧ ∃ μ', I i μ' ∧ Nx K H1 μ1 H' μ', ⟨_, rfl, Nat.zero_le _, _, i0, n0⟩, ?_⟩
  rintro i m H' ⟨rfl, hi, μ', hI, n'⟩
  obtain ⟨y1, y2⟩ := y.2 H' μ' n' i
  by_cases hlt : i < ds.length
  · obtain ⟨go, yl⟩ := y2 ds[i] (by simp [hlt])
    refine .inr ⟨go, fun H2 => ∃ μ2, I (i + 1) μ2 ∧ Nx K H1 μ1 H2 μ2, fun H2 ⟨μ2, a, b⟩ => ⟨_, by omega, rfl, hlt, μ2, a, b⟩, fun x H2 hx => ?_⟩
    obtain ⟨n2, r2⟩ := yl x H2 hx
    have s2 : StOk K H2 μ' (wipe σ vs) (wipeE ρ vs) := by
      have q := (s.next n1).next (n'.trans n2)
      exact ⟨renv_wipe q.env vs, q.wd⟩
    refine ⟨wipeE ρ vs, μ', ds[i], _, s2, r2, step i ds[i] μ' (by simp [hlt]) hI, fun ρ3 σ3 hb s3 hl hj => ⟨wipe_same hl hj hs, ?_⟩⟩
    refine Lift.go (F := A) (R := RB) s3 hb fun b μ4 v H4 g4 s4 n4 e4 => ?_
    cases (show v = b from e4)
    have nn := (n'.trans n2).trans n4
    cases b with
    | true =>
      rw [if_pos rfl]
      refine Lift.go s4 g4 fun yd μ5 yv H5 ⟨acc, ha, hl5, hI5⟩ s5 n5 r5 => ?_
      obtain ⟨xs, e5, ra, za⟩ := s5.wd p _ ha
      refine ⟨xs, e5, by rw [ra.length]; omega, _, hI5, (nn.trans n5).trans (Nx.put s5.wd (fun z => by rw [ha] at z; cases z) ⟨_, rfl, ra.append (.cons r5 .nil), by rw [List.length_append, List.length_singleton]; omega⟩)⟩
    | false =>
      rw [if_neg Bool.false_ne_true]
      exact ⟨μ4, g4, nn⟩
  · have e : i = ds.length := by omega
    subst e
    refine .inl ⟨y1 (Nat.le_refl _), ?_⟩
    obtain ⟨acc, ha, q⟩ := fin μ' hI
    obtain ⟨n6, r6⟩ := Nx.frz n'.wd ha
    exact k _ _ _ H' q ((n1.trans n').trans n6) r6
section
variable {X : Cx} {elt tg iter : Expr} {ifs : List Expr} {scope : Scope} {own : List (Str × Nat)} {pos : Pos} {F : TF (List D)} {slots : List Nat} {g : TGD} {A : TF Bool} {Fe : TF D}
theorem de_lc (own : List (Str × Nat)) (hc : X.calm = true) (hN : X.N.Nodup) (hi : DI X tg iter F) (ok : BlkOk X.N X.env.scope scope own)
    (hg : ∀ (s : Shared) (H : Hp) (C : Addr) (cl : List (Str × Addr)) (fp : List Addr), DG (X.blk s H scope (compEnvC scope cl C X.env) fp) tg slots g) (ht : ∀ (s : Shared) (H : Hp) (C : Addr) (cl : List (Str × Addr)) (fp : List Addr), DTs (X.blk s H scope (compEnvC scope cl C X.env) fp) ifs A)
    (he : ∀ (s : Shared) (H : Hp) (C : Addr) (cl : List (Str × Addr)) (fp : List Addr), DE (X.blk s H scope (compEnvC scope cl C X.env) fp) elt Fe) (hsl : ∀ j ∈ slots, j ∈ own.map (·.2) := by decide) (hs : ∀ x, foldedSetIterable iter X.env x = pure x := by intro _; rfl) :
    DE X (.ListComp elt [⟨tg, iter, ifs, 0⟩] scope pos) (dLc F g A Fe (own.map (·.2))) := weakE (pe_lc hc hN hi ok hg ht he hs) fun σ H Q h => lc_go hsl h
theorem ds_setLc (i : Nat) (own : List (Str × Nat)) {y : Str} {py spos : Pos} (hc : X.calm = true) (hN : X.N.Nodup) (hsw : swapsWith (.ListComp elt [⟨tg, iter, ifs, 0⟩] scope pos) (some (.Name y py)) spos.line X.env = pure true) (hi : DI X tg iter F) (ok : BlkOk X.N X.env.scope scope own)
    (hg : ∀ (s : Shared) (H : Hp) (C : Addr) (cl : List (Str × Addr)) (fp : List Addr), DG (X.blk s H scope (compEnvC scope cl C X.env) fp) tg slots g) (ht : ∀ (s : Shared) (H : Hp) (C : Addr) (cl : List (Str × Addr)) (fp : List Addr), DTs (X.blk s H scope (compEnvC scope cl C X.env) fp) ifs A)
    (he : ∀ (s : Shared) (H : Hp) (C : Addr) (cl : List (Str × Addr)) (fp : List Addr), DE (X.blk s H scope (compEnvC scope cl C X.env) fp) elt Fe) (hsl : ∀ j ∈ slots, j ∈ own.map (·.2) := by decide) (hy : X.N[i]? = some y := by rfl) (hyl : X.env.scope.names.lookup y = some .local := by rfl) (hs : ∀ x, foldedSetIterable iter X.env x = pure x := by intro _; rfl) :
    DS X (.Assign [.Name y py] (.ListComp elt [⟨tg, iter, ifs, 0⟩] scope pos) spos) (sSet i (dLc F g A Fe (own.map (·.2)))) :=
  weakS (ps_setLc hc hN hy hyl hsw hi ok hg ht he hs) fun D' σ H ⟨ρ, μ, E, s, f, c⟩ => lc_go (Q := fun x H1 => D'.nx (σ.set i (some x)) H1) hsl ⟨ρ, μ, _, s, f, fun d μ1 v H1 g1 n1 r1 => c.nx _ μ1 _ H1 g1 ((s.next n1).set r1 i) n1⟩
end

/-! ### lists that change -/
section
variable {X : Cx} {pos apos : Pos} {o e : Expr} {Fo Fe : TF D}
def sApp (Fo Fe : TF D) : TSD := fun E ρ μ => Fo ρ μ fun x μ1 => ∃ p ds', x = .ptr p ∧ μ1 p = some (.lst ds') ∧ Fe ρ μ1 fun y μ2 => ∃ ds, μ2 p = some (.lst ds) ∧ ds.length < sizeLine ∧ E.nx ρ (μ2.put p (.lst (ds ++ [y])))
theorem ds_app {cpos : Pos} (ho : DE X o Fo) (he : DE X e Fe) (hbase : attributeBase o "append" X.env (eval o X.env) = eval o X.env := by rfl)
    (hfew : ((backTo cpos (starEach [e] X.env)).all (fun x => !x.1) && (backToKw cpos (keywordEach [] X.env)).all (fun x => x.1.isSome)
      && decide (([e] : List Expr).length + ([] : List Keyword).length + (if ([] : List Keyword).isEmpty then 0 else 1) < 30)) = true := by rfl)
    (hline : (apos.endLine == cpos.line) = true := by rfl) (hs : starEach [e] X.env = (false, eval e X.env) :: starEach [] X.env := by rfl) (hplain : (backTo cpos (starEach [] X.env)).any (·.1) = false := by rfl)
    (hsw : swapsWith (.Call (.Attribute o "append" apos) [e] [] cpos) none pos.line X.env = pure false := by rfl) : DS X (.Expr (.Call (.Attribute o "append" apos) [e] [] cpos) pos) (sApp Fo Fe) :=
  weakS (ps_expr (pe_bm PySem.F.plainAttrs_list PySem.F.slot_list_append PySem.F.type_list_append mt_append ho (pa_cons he pa_nil hs) hbase hfew hline hs hplain) hsw) fun D' σ H ⟨ρ, μ, E, s, f, c⟩ =>
    Lift.go (F := Fo) s f fun x μ1 v H1 ⟨p, ds', ex, hp1, g1⟩ s1 n1 r1 => by
      subst ex
      cases r1
      obtain ⟨xs', e1, _, _⟩ := s1.wd p _ hp1
      refine ⟨.inl ⟨rfl, _, SqL.of e1⟩, Lift.go (F := Fe) s1 g1 fun y μ2 vy H2 ⟨ds, hp2, hl, g2⟩ s2 n2 r2 => ?_⟩
      obtain ⟨xs, e2, ra, za⟩ := s2.wd p _ hp2
      have n3 : Nx X.K H2 μ2 (upd H2 p (.lst (xs ++ [vy]))) (μ2.put p (.lst (ds ++ [y]))) := Nx.put s2.wd (fun z => by rw [hp2] at z; cases z) ⟨_, rfl, ra.append (.cons r2 .nil), by rw [List.length_append, List.length_singleton]; omega⟩
      exact ⟨p, xs, vy, rfl, rfl, e2, by rw [ra.length]; exact hl, c.nx ρ _ σ _ g2 (s2.next n3) ((n1.trans n2).trans n3)⟩
/-- o[i] = e, o a list that changes -/
def sSetIx (Fo Fi Fe : TF D) : TSD := fun E ρ μ => Fe ρ μ fun y μ1 => Fo ρ μ1 fun x μ2 => Fi ρ μ2 fun i μ3 => ∃ p ds j k, x = .ptr p ∧ i = .int j ∧ μ3 p = some (.lst ds) ∧ ixN ds.length j = some k ∧ E.nx ρ (μ3.put p (.lst (ds.set k y)))
theorem ds_setIx {i : Expr} {Fi : TF D} {spos : Pos} (ho : DE X o Fo) (hi : DE X i Fi) (he : DE X e Fe)
    (ha : ∀ v, assign (.Subscript o i pos) X.env v = (do
      let ov ← holding [v] (eval o X.env)
      let iv ← holding [v, ov] (eval i X.env)
      standAt pos
      holding [v, ov, iv] (setItem ov iv v)
      release [v, ov, iv] []) := by intro _; rfl)
    (hs : swapsWithSole [.Subscript o i pos] e spos.line X.env = pure false := by rfl) (hw : swappedStores [.Subscript o i pos] e X.env = pure none := by rfl)
    (h1 : (assignEach [.Subscript o i pos] X.env).map (·.2) = [assign (.Subscript o i pos) X.env] := by rfl) : DS X (.Assign [.Subscript o i pos] e spos) (sSetIx Fo Fi Fe) :=
  weakS (ps_asg he (pg_sub ho hi set_list ha) hs hw h1) fun D' σ H ⟨ρ, μ, E, s, f, c⟩ =>
    Lift.go (F := Fe) s f fun y μ1 vy H1 g1 s1 n1 r1 => Lift.go (F := Fo) s1 g1 fun x μ2 vx H2 g2 s2 n2 r2 => Lift.go (F := Fi) s2 g2 fun i μ3 vi H3 ⟨p, ds, j, k, ex, ei, hp, hk, g3⟩ s3 n3 r3 => by
      subst ex; subst ei
      cases r2; cases r3
      obtain ⟨xs, e3, ra, za⟩ := s3.wd p _ hp
      have n4 : Nx X.K H3 μ3 (upd H3 p (.lst (xs.set k vy))) (μ3.put p (.lst (ds.set k y))) := Nx.put s3.wd (fun z => by rw [hp] at z; cases z) ⟨_, rfl, ra.set (r1.mono (n2.trans n3).ext) k, by rw [List.length_set]; exact za⟩
      exact ⟨p, xs, j, k, rfl, rfl, e3, by rw [ra.length]; exact hk, c.nx ρ _ σ _ g3 (s3.next n4) (((n1.trans n2).trans n3).trans n4)⟩
/-- name += e, ints -/
def sAugI (i : Nat) (Fe : TF D) (h : Int → Int → Int) : TSD := fun E ρ μ => ∃ a, ρ[i]? = some (some (.int a)) ∧ Fe ρ μ fun y μ1 => ∃ b, y = .int b ∧ E.nx (ρ.set i (some (.int (h a b)))) μ1
theorem ds_augI (i : Nat) {x : Str} {op : Operator} {h : Int → Int → Int} {pos' : Pos} (hN : X.N.Nodup) (he : DE X e Fe) (ho : PIp X op (ipI h)) (hi : X.N[i]? = some x := by rfl) (hx : Loc X.env.scope x := by first | exact Or.inl rfl | exact Or.inr rfl) (hf : X.fn x = true ∨ X.env.scope.names.lookup x = some .local := by first | exact .inl rfl | exact .inr rfl | assumption) :
    DS X (.AugAssign (.Name x pos') op e pos) (sAugI i Fe h) :=
  weakS (ps_aug hN hi hx he ho hf) fun D' σ H ⟨ρ, μ, E, s, ⟨a, ea, f⟩, c⟩ => by
    obtain ⟨v, hv, rv⟩ := s.env.2 i _ ea
    cases rv
    refine ⟨_, hv, Lift.go (F := Fe) s f fun y μ1 vy H1 ⟨b, eb, g1⟩ s1 n1 r1 => ?_⟩
    subst eb
    cases r1
    exact ⟨a, b, rfl, rfl, c.nx _ μ1 _ H1 g1 (s1.set (.int _) i) n1⟩
end
end DL
end

-- part DL5
section
namespace DL
open PySem L2
section
variable {K : PySem.W.Frag}
def fSub : F2 := fII (fun _ _ => True) fun i j => .int (i - j)
def fFdiv : F2 := fII CDiv fun i j => .int (i / j)
def fMod : F2 := fII (fun _ j => 0 < j) fun i j => .int (i % j)
def fPow : F2 := fII CPow fun i j => .int (i ^ j.toNat)
def fShl : F2 := fII CPow fun i j => .int (i * 2 ^ j.toNat)
def fShr : F2 := fII (fun _ j => 0 ≤ j) fun i j => .int (i / 2 ^ j.toNat)
def fAnd : F2 := fII (fun _ _ => True) fun i j => .int (Builtin.bitAnd i j)
theorem od_sub : OpD K (rI0 fun i j => V.int (i - j)) fSub := od_ii0 fun _ _ _ => .int _
theorem od_fdiv : OpD K (rI CDiv fun i j => V.int (i / j)) fFdiv := od_ii fun _ _ _ => .int _
theorem od_mod : OpD K (rI (fun _ j => 0 < j) fun i j => V.int (i % j)) fMod := od_ii fun _ _ _ => .int _
theorem od_pow : OpD K (rI CPow fun i j => V.int (i ^ j.toNat)) fPow := od_ii fun _ _ _ => .int _
theorem od_shl : OpD K (rI CPow fun i j => V.int (i * 2 ^ j.toNat)) fShl := od_ii fun _ _ _ => .int _
theorem od_shr : OpD K (rI (fun _ j => 0 ≤ j) fun i j => V.int (i / 2 ^ j.toNat)) fShr := od_ii fun _ _ _ => .int _
theorem od_and : OpD K (rI0 fun i j => V.int (Builtin.bitAnd i j)) fAnd := od_ii0 fun _ _ _ => .int _
theorem od_lt : OpD K (fun x y H Q => (rI0 fun i j => .bl (decide (i < j))) x y H Q ∨ (∃ i j, x = V.str i ∧ y = V.str j ∧ Q (.bl (decide (i.cps.toList < j.cps.toList))) H)) fLt := od_cmp
theorem od_le : OpD K (fun x y H Q => (rI0 fun i j => .bl (decide (i ≤ j))) x y H Q ∨ (∃ i j, x = V.str i ∧ y = V.str j ∧ Q (.bl (!decide (j.cps.toList < i.cps.toList))) H)) fLe := od_cmp
theorem od_gt : OpD K (fun x y H Q => (rI0 fun i j => .bl (decide (j < i))) x y H Q ∨ (∃ i j, x = V.str i ∧ y = V.str j ∧ Q (.bl (decide (j.cps.toList < i.cps.toList))) H)) fGt := od_cmp
theorem od_ge : OpD K (fun x y H Q => (rI0 fun i j => .bl (decide (j ≤ i))) x y H Q ∨ (∃ i j, x = V.str i ∧ y = V.str j ∧ Q (.bl (!decide (i.cps.toList < j.cps.toList))) H)) fGe := od_cmp
end

/-! ### a dict whose keys are tuples -/
def dNewT : TF D := fun _ μ Q => ∀ p, μ p = none → Q (.ptr p) (μ.put p (.dT []))
theorem de_dT {X : Cx} {pos : Pos} : DE X (.Dict [] [] pos) dNewT :=
  weakE pe_dnewT fun σ H Q ⟨ρ, μ, Qd, s, hf, k⟩ p hp => by
    have n : Nx X.K H μ (upd H p (.dT [])) (μ.put p (.dT [])) := Nx.put s.wd (fun _ => hp) ⟨[], rfl, .nil⟩
    exact k _ _ _ _ (hf p (s.wd.free hp)) n (.ptr p)
def tSetdT (td ty tx : TE) : TE := fun σ H Q => td σ H fun x H1 => ∃ a, x = .ref a ∧ IsD H1 a ∧ ty σ H1 fun y H2 => tx σ H2 fun z H3 => ∃ (kvs : List (List Key × V)) (k : List Key) (b : Addr), H3 a = some (.dT kvs) ∧ y = .ref b ∧ H3 b = some (.tup (k.map kV)) ∧ kvs.length < sizeLine ∧
  (∀ v, valV kvs k = some v → Q v H3) ∧ (valV kvs k = none → Q z (upd H3 a (.dT (putK kvs k z))))
theorem setdT_at {X : Cx} {pins : List (Addr × Obj)} {σ : L2.St} {H : Hp} {s : Shared} {a b : Addr} {r : Value} {d : V} {k : List Key} {A : Around} {E : Value → Shared → Prop} {kvs : List (List Key × V)} {Q : Value → Shared → Prop} (hu : A.units + 1 < cLine) (I : Inv X pins σ H s) (e : H a = some (.dT kvs)) (eb : H b = some (.tup (k.map kV))) (rd : RelV d r) (hl : kvs.length < sizeLine)
    (h1 : ∀ v, valV kvs k = some v → ∀ (w' : Value) (s' : Shared), Inv X pins σ H s' → RelV v w' → Q w' s') (h2 : valV kvs k = none → ∀ (w' : Value) (s' : Shared), Inv X pins σ (upd H a (.dT (putK kvs k d))) s' → RelV d w' → Q w' s') :
    wpAny (model X.prog X.w) A (call (.builtin "dict.setdefault") [.ref a, .ref b, r]) Q E s := by
  obtain ⟨z, hd, xs, rel, dd⟩ := dt_of I.hok e
  have hz : xs.length ≤ sizeLine := by rw [← Paired.length rel]; exact z
  have hv := rel.val k
  refine PySem.call_setdefault_heap (hsz := hz) (PySem.tupleKind_room_in1 hu) (key_of I.hok eb) hd dd (fun p hp => ?_) fun hn h' dd' hs => ?_
  · rw [hp] at hv
    cases q0 : valV kvs k with
    | none => rw [q0] at hv; exact False.elim hv
    | some v0 => rw [q0] at hv; exact h1 v0 q0 _ _ (I.tok _) hv
  · rw [hn] at hv
    cases q0 : valV kvs k with
    | some v0 => rw [q0] at hv; exact False.elim hv
    | none =>
      have hl2 : (putK kvs k d).length ≤ sizeLine := Nat.le_trans (length_putK kvs k d) hl
      obtain ⟨q, es, ep, hq, g2, g3, g4, _, g5⟩ := dd'
      refine h2 q0 _ _ (d_write I (by rw [e]; exact True.intro) hs ⟨q, hq⟩ ⟨hl2, hd, _, (rel.put k eb rd).keeps fun c ys ec => ?_, q, es, ep, hq, g2, g3, g4, g5⟩) rd
      rw [upd_ne (ne_of ec e (fun z => nomatch z))]
      exact ec
theorem pe_setdT {X : Cx} {o e f : Expr} {td ty tx : TE} {apos cpos : Pos} (hu : X.A.units + 1 < cLine) (ho : PE X o td) (he : PE X e ty) (hf : PE X f tx) (m : M2 X o "setdefault" apos e f cpos) : PE X (.Call (.Attribute o "setdefault" apos) [e, f] [] cpos) (tSetdT td ty tx) := by
  refine ⟨fun pins s σ H Q I h => ?_⟩
  refine PySem.wpAny_Call_method m.base m.few m.line PySem.F.plainAttrs_dict PySem.F.slot_dict_setdefault PySem.F.type_dict_setdefault (thn (ho.run pins s σ H _ I h) fun u s1 ⟨x, H1, I1, rx, a, ex, d, q1⟩ => ?_)
  subst ex
  cases (show u = Value.ref a from rx)
  obtain ⟨t1, t2, _⟩ := isD_at I1 d
  refine ⟨t1, t2, ?_⟩
  rw [m.trees]
  refine PySem.Calls.callWith_builtin rfl (PySem.Calls.evalArgs_plain (PySem.Calls.spliced_cons (thn (he.run pins s1 σ H1 _ I1 q1) fun iv s2 ⟨y, H2, I2, ry, q2⟩ =>
    PySem.Calls.spliced_cons (thn (hf.run pins s2 σ H2 _ I2 q2) fun fv s3 ⟨z, H3, I3, rz, kvs, k, b, ea, ey, eb, hl, q3, q4⟩ => PySem.Calls.spliced_nil ?_))))
  subst ey
  cases (show iv = Value.ref b from ry)
  exact setdT_at hu I3 ea eb rz hl (fun v hv w' s4 I4 rw' => ⟨v, _, I4, rw', q3 v hv⟩) fun hn w' s4 I4 rw' => ⟨z, _, I4, rw', q4 hn⟩
/-- a key as data -/
def keyD : D → Option Key
  | .int i => some (.inl i)
  | .str s => some (.inr s)
  | _ => none
def keysD : List D → Option (List Key)
  | [] => some []
  | d :: ds => match keyD d, keysD ds with
    | some k, some ks => some (k :: ks)
    | _, _ => none
theorem keys_of {K : PySem.W.Frag} {G : Hp} : ∀ {vs : List V} {ds : List D} {ks : List Key}, RpAll K G vs ds → keysD ds = some ks → vs = ks.map kV
  | _, _, _, .nil, h => by cases h; rfl
  | _, _, ks, .cons (v := v) (d := d) (ds := ds) r t, h => by
    unfold keysD at h
    cases q : keyD d with
    | none => rw [q] at h; cases h
    | some k =>
      cases q2 : keysD ds with
      | none => rw [q, q2] at h; cases h
      | some js =>
        rw [q, q2] at h; cases h
        rw [keys_of t q2, List.map_cons]
        cases r <;> simp only [keyD] at q <;> cases q <;> rfl
def lookD {κ : Type} [DecidableEq κ] (kvs : List (κ × D)) (k : κ) : Option D := (kvs.find? fun kv => decide (kv.1 = k)).map (·.2)
theorem lookD_of {κ : Type} [DecidableEq κ] {K : PySem.W.Frag} {G : Hp} {k : κ} : ∀ {gs : List (κ × V)} {kvs : List (κ × D)}, Paired (fun (p : κ × V) (q : κ × D) => p.1 = q.1 ∧ Rp K G p.2 q.2) gs kvs →
    (∀ d, lookD kvs k = some d → ∃ v, valV gs k = some v ∧ Rp K G v d) ∧ (lookD kvs k = none → valV gs k = none) ∧ gs.length = kvs.length
  | _, _, .nil => ⟨fun d h => by simp [lookD] at h, fun _ => rfl, rfl⟩
  | _, _, .cons (a := p) (b := q) h t => by
    obtain ⟨i1, i2, i3⟩ := lookD_of (k := k) t
    obtain ⟨h1, h2⟩ := h
    by_cases e : q.1 = k
    · refine ⟨fun d hd => ⟨p.2, valV_pos (h1.trans e), ?_⟩, fun hn => ?_, by simp [i3]⟩
      · have : q.2 = d := by simpa [lookD, List.find?_cons, e] using hd
        rw [← this]; exact h2
      · simp [lookD, List.find?_cons, e] at hn
    · have e' : ¬ p.1 = k := fun z => e (h1.symm.trans z)
      refine ⟨fun d hd => ?_, fun hn => ?_, by simp [i3]⟩
      · rw [valV_neg e']
        exact i1 d (by simpa [lookD, List.find?_cons, e] using hd)
      · rw [valV_neg e']
        exact i2 (by simpa [lookD, List.find?_cons, e] using hn)
theorem paired_snoc {α β : Type} {F : α → β → Prop} : ∀ {l : List α} {m : List β} {a : α} {b : β}, Paired F l m → F a b → Paired F (l ++ [a]) (m ++ [b])
  | _, _, _, _, .nil, h => .cons h .nil
  | _, _, _, _, .cons r t, h => .cons r (paired_snoc t h)
/-- d.setdefault(k, x), k a tuple: what stands there, or x laid at the end -/
def dSetdT (Fd Fy Fx : TF D) : TF D := fun ρ μ Q => Fd ρ μ fun x μ1 => ∃ p kvs', x = .ptr p ∧ μ1 p = some (.dT kvs') ∧ Fy ρ μ1 fun y μ2 => Fx ρ μ2 fun z μ3 => ∃ kvs ds ks, μ3 p = some (.dT kvs) ∧ y = .tup ds ∧ keysD ds = some ks ∧ kvs.length < sizeLine ∧
  match lookD kvs ks with
  | some d => Q d μ3
  | none => Q z (μ3.put p (.dT (kvs ++ [(ks, z)])))
theorem de_setd {X : Cx} {k : Nat} (hr : Room k X.A) {o e f : Expr} {apos cpos : Pos} {Fd Fy Fx : TF D} (ho : DE X o Fd) (he : DE X e Fy) (hf : DE X f Fx) (m : M2 X o "setdefault" apos e f cpos := by exact ⟨rfl, rfl, rfl, rfl⟩) :
    DE X (.Call (.Attribute o "setdefault" apos) [e, f] [] cpos) (dSetdT Fd Fy Fx) :=
  weakE (pe_setdT (hu_of hr) ho he hf m) fun σ H Q ⟨ρ, μ, Qd, s, g, kk⟩ => Lift.go (F := Fd) s g fun x μ1 v H1 ⟨p, kvs', ex, hp1, g1⟩ s1 n1 r1 => by
    subst ex
    cases r1
    obtain ⟨gs', e1, _⟩ := s1.wd p _ hp1
    refine ⟨p, rfl, .inr ⟨gs', .inl e1⟩, Lift.go (F := Fy) s1 g1 fun y μ2 vy H2 g2 s2 n2 r2 => Lift.go (F := Fx) s2 g2 fun z μ3 vz H3 ⟨kvs, ds, ks, hp3, ey, hk, hl, g3⟩ s3 n3 r3 => ?_⟩
    subst ey
    obtain ⟨gs, e3, pr⟩ := s3.wd p _ hp3
    have r2' := r2.mono n3.ext
    cases r2' with
    | @tup b xs _ hb ra za =>
      have ek := keys_of ra hk
      subst ek
      obtain ⟨l1, l2, l3⟩ := lookD_of (k := ks) pr
      have nn := (n1.trans n2).trans n3
      refine ⟨gs, ks, b, e3, rfl, hide_in hb, by rw [l3]; exact hl, fun v hv => ?_, fun hv => ?_⟩
      · cases q : lookD kvs ks with
        | none => rw [l2 q] at hv; cases hv
        | some d =>
          rw [q] at g3
          obtain ⟨v', hv', rv⟩ := l1 d q
          rw [hv] at hv'; cases hv'
          exact kk d μ3 v H3 g3 nn rv
      · cases q : lookD kvs ks with
        | some d =>
          obtain ⟨v', hv', rv⟩ := l1 d q
          rw [hv] at hv'; cases hv'
        | none =>
          rw [q] at g3
          have n4 : Nx X.K H3 μ3 (upd H3 p (.dT (putK gs ks vz))) (μ3.put p (.dT (kvs ++ [(ks, z)]))) := Nx.put s3.wd (fun z => by rw [hp3] at z; cases z) ⟨_, rfl, by rw [putK_new _ hv]; exact paired_snoc pr ⟨rfl, r3⟩⟩
          exact kk z _ vz _ g3 (nn.trans n4) (r3.mono n4.ext)

/-! ### max(xs, default=d) of ints -/
def intsD : List D → Option (List Int)
  | [] => some []
  | .int i :: ds => (intsD ds).map (i :: ·)
  | _ :: _ => none
theorem ints_ofD {K : PySem.W.Frag} {G : Hp} : ∀ {vs : List V} {ds : List D} {ns : List Int}, RpAll K G vs ds → intsD ds = some ns → vs = ns.map V.int
  | _, _, _, .nil, h => by cases h; rfl
  | _, _, ns, .cons (ds := ds) r t, h => by
    cases r <;> simp only [intsD] at h <;> try (cases h; done)
    rename_i i
    cases q : intsD ds with
    | none => rw [q] at h; cases h
    | some cs => rw [q] at h; cases h; rw [ints_ofD t q]; rfl
def maxFrom (d : Int) : List Int → Int
  | [] => d
  | n :: ns => ns.foldl max n
def rMaxDf (K : PySem.W.Frag) : List V → List V → Hp → VK → Prop := fun xs zs H Q => ∃ (a : Addr) (ns : List Int) (d : Int), xs = [.ref a] ∧ zs = [.int d] ∧ SqL K H a (ns.map V.int) ∧ Q (.int (maxFrom d ns)) H
theorem reads_ints {h : Heap} : ∀ {us : List Value} {ns : List Int}, PyProof.Rows.IntsAre us ns → ∃ as, ReadsAll h us (ns.map PyData.int) as
  | _, _, .nil => ⟨_, .nil⟩
  | _, _, .cons n t r => let ⟨as, q⟩ := reads_ints r; ⟨_, .cons (.int n t) q⟩
theorem alike_intsD (ns : List Int) : PySem.W.AlikeAll (ns.map PyData.int) := by
  refine ⟨fun x hx y hy => ?_, fun x hx => ?_⟩
  · obtain ⟨i, _, rfl⟩ := List.mem_map.mp hx
    obtain ⟨j, _, rfl⟩ := List.mem_map.mp hy
    rfl
  · obtain ⟨i, _, rfl⟩ := List.mem_map.mp hx
    intro z; cases z
theorem depth_ints : ∀ ns : List Int, PyData.depthAll (ns.map PyData.int) = 0
  | [] => by simp [PyData.depthAll]
  | n :: ns => by simp only [List.map_cons, PyData.depthAll, depth_ints ns, PyData.depth]; rfl
theorem cr_maxDf {X : Cx} {k : Nat} (hr : Room k X.A) (hc : X.calm = true) : CallRK X (.builtin "max") [("default" : Str)] (rMaxDf X.K) := by
  intro pins s σ H xs zs us ws Q I rx rz h
  obtain ⟨a, ns, d, rfl, rfl, hs, q⟩ := h
  obtain ⟨u, rfl, ru⟩ := vals1 rx
  obtain ⟨z, rfl, rv⟩ := vals1 rz
  cases ru
  obtain ⟨its, r, hl, _⟩ := I.list hs
  have hi := r.ints
  obtain ⟨as, rd⟩ := reads_ints (h := s.heap) hi
  have hu := hr.units
  show wpAny (model X.prog X.w) X.A (call (.builtin "max") [.ref a] [(Str.ofString "default", z)]) (EP X pins σ Q) X.xe s
  refine PySem.W.max_list_default (I.ok.hd hc) hl.isList (vs := its.toArray) (xs := ns.map PyData.int) (as := as) rd (alike_intsD ns) (by rw [depth_ints]; omega) (fun e h' tk hk => ?_) fun y ys i v h' tk bs e hv hr' hk => ?_
  · have : ns = [] := List.map_eq_nil_iff.mp e
    subst this
    exact ⟨.int d, H, I.kept hk, rv, q⟩
  · cases ns with
    | nil => cases e
    | cons n ns =>
      rw [List.map_cons] at e
      injection e with e1 e2
      subst e1; subst e2
      rw [PySem.W.maxD_ints] at hr'
      obtain ⟨t, rfl⟩ : ∃ t, v = Value.int (ns.foldl max n) t := by
        cases hr'
        exact ⟨_, rfl⟩
      exact ⟨.int _, H, I.kept hk, ⟨t, rfl⟩, q⟩
def dMaxD (F Fd : TF D) : TF D := fun ρ μ Q => F ρ μ fun x μ1 => Fd ρ μ1 fun y μ2 => ∃ ds ns d, x = .lst ds ∧ intsD ds = some ns ∧ y = .int d ∧ Q (.int (maxFrom d ns)) μ2
theorem de_maxD {X : Cx} {k : Nat} (hr : Room k X.A) {e f : Expr} {F Fd : TF D} {p pos kpos : Pos} (hx : X.mg "max" = none) (he : DE X e F) (hf : DE X f Fd) (hg : Gl X "max" := by rfl)
    (hs : starEach [e] X.env = (false, eval e X.env) :: starEach [] X.env := by rfl)
    (h1 : backTo pos (starEach [e] X.env) = (false, eval e X.env) :: backTo pos (starEach [] X.env) := by rfl) (h2 : (backTo pos (starEach [e] X.env)).any (·.1) = false := by rfl)
    (h3 : (backToKw pos (keywordEach [⟨some "default", f, kpos⟩] X.env)).all (·.1.isSome) = true := by rfl) (h4 : (backToKw pos (keywordEach [⟨some "default", f, kpos⟩] X.env)).any (·.1.isNone) = false := by rfl) (h5 : (backToKw pos (keywordEach [⟨some "default", f, kpos⟩] X.env)).filterMap (·.1) = [("default" : Str)] := by rfl) (hc : X.calm = true := by rfl) :
    DE X (.Call (.Name "max" p) [e] [⟨some "default", f, kpos⟩] pos) (dMaxD F Fd) :=
  weakE (pe_callBK (cr_maxDf hr hc) hg hx (by decide +kernel) (pa_cons he pa_nil hs) (pk_cons hf pk_nil) (by decide) (by decide) h1 h2 h3 h4 h5) fun σ H Q ⟨ρ, μ, Qd, s, g, kk⟩ => Lift.go (F := F) s g fun x μ1 v H1 g1 s1 n1 r1 => Lift.go (F := Fd) s1 g1 fun y μ2 u H2 ⟨ds, ns, d, ex, hn, ey, g2⟩ s2 n2 r2 => by
    subst ex; subst ey
    cases r2
    have r1' := r1.mono n2.ext
    cases r1' with
    | lst ha ra za => exact ⟨_, ns, d, rfl, rfl, by rw [← ints_ofD ra hn]; exact SqL.of (hide_in ha), kk _ μ2 _ H2 g2 (n1.trans n2) (.int _)⟩
end DL
end

-- part DL6
section
namespace DL
open PySem L2
/-! ### comprehensions with two fors -/
def lcStep (p : Addr) (J : Nat → Mu → Prop) (j : Nat) (r : Option D) (μ : Mu) : Prop := match r with
  | some y => ∃ acc, μ p = some (.lst acc) ∧ acc.length < sizeLine ∧ J (j + 1) (μ.put p (.lst (acc ++ [y])))
  | none => J (j + 1) μ
def dLc2 (F : TF (List D)) (g : TGD) (A : TF Bool) (F2 : TF (List D)) (g2 : TGD) (A2 : TF Bool) (Fe : TF D) (vs vs1 : List Nat) : TF D := fun ρ μ Q => F ρ μ fun ds μ1 => ∀ p, μ1 p = none → ∃ I : Nat → Mu → Prop, I 0 (μ1.put p (.lst [])) ∧
  (∀ i d μ', ds[i]? = some d → I i μ' → g d (wipeE ρ vs) fun ρ2 => A ρ2 μ' fun b μ2 => if b = true then F2 ρ2 μ2 fun es μ3 => ∃ J : Nat → Mu → Prop, J 0 μ3 ∧
    (∀ j e μ4, es[j]? = some e → J j μ4 → lcTurn g2 A2 Fe (wipeE ρ2 vs1) e μ4 (lcStep p J j)) ∧ ∀ μ4, J es.length μ4 → I (i + 1) μ4 else I (i + 1) μ2) ∧
  ∀ μ', I ds.length μ' → ∃ acc, μ' p = some (.lst acc) ∧ Q (.lst acc) (μ'.del p)
theorem lc2_go {K : PySem.W.Frag} {F F2 : TF (List D)} {slots slots2 vs vs1 : List Nat} {g g2 : TGD} {A A2 : TF Bool} {Fe : TF D} (hs : ∀ j ∈ slots, j ∈ vs) (hs2 : ∀ j ∈ slots2, j ∈ vs1) {σ : L2.St} {H : Hp} {Q : VK} (h : tD K (dLc2 F g A F2 g2 A2 Fe vs vs1) σ H Q) :
    tLc2 (tTI K F) (gD K slots g) (tDT K A) (tTI K F2) (gD K slots2 g2) (tDT K A2) (tD K Fe) vs vs1 σ H Q := by
  obtain ⟨ρ, μ, Qd, s, f, k⟩ := h
  refine ⟨ρ, μ, _, s, f, fun ds μ1 J0 H1 gg n1 y p hp => ?_⟩
  have hm := n1.wd.free hp
  obtain ⟨I, i0, step, fin⟩ := gg p hm
  have n0 : Nx K H1 μ1 (upd H1 p (.lst [])) (μ1.put p (.lst [])) := Nx.put n1.wd (fun _ => hp) ⟨[], rfl, .nil, by show 0 ≤ sizeLine; decide⟩
  refine ⟨fun i m H' => m = ds.length - i ∧ i ≤ ds.length ∧ ∃ μ', I i μ' ∧ Nx K H1 μ1 H' μ', ⟨_, rfl, Nat.zero_le _, _, i0, n0⟩, ?_⟩
  rintro i m H' ⟨rfl, hi, μ', hI, n'⟩
  obtain ⟨y1, y2⟩ := y.2 H' μ' n' i
  by_cases hlt : i < ds.length
  · obtain ⟨go, yl⟩ := y2 ds[i] (by simp [hlt])
    refine .inr ⟨go, fun H2 => ∃ μ2, I (i + 1) μ2 ∧ Nx K H1 μ1 H2 μ2, fun H2 ⟨μ2, a, b⟩ => ⟨_, by omega, rfl, hlt, μ2, a, b⟩, fun x H2 hx => ?_⟩
    obtain ⟨n2, r2⟩ := yl x H2 hx
    have s2 : StOk K H2 μ' (wipe σ vs) (wipeE ρ vs) := by
      have q := (s.next n1).next (n'.trans n2)
      exact ⟨renv_wipe q.env vs, q.wd⟩
    refine ⟨wipeE ρ vs, μ', ds[i], _, s2, r2, step i ds[i] μ' (by simp [hlt]) hI, fun ρ3 σ3 hb s3 hl hj => ⟨wipe_same hl hj hs, ?_⟩⟩
    refine Lift.go (F := A) (R := RB) s3 hb fun b μ4 v H4 g4 s4 n4 e4 => ?_
    cases (show v = b from e4)
    have nn := (n'.trans n2).trans n4
    cases b with
    | false =>
      rw [if_neg Bool.false_ne_true]
      exact ⟨μ4, g4, nn⟩
    | true =>
      rw [if_pos rfl]
      refine ⟨ρ3, μ4, _, s4, g4, fun es μ5 J1 H5 ⟨J, j0, jstep, jfin⟩ n5 z => ?_⟩
      have nn5 := nn.trans n5
      refine ⟨fun j m H6 => m = es.length - j ∧ j ≤ es.length ∧ ∃ μ6, J j μ6 ∧ Nx K H5 μ5 H6 μ6, ⟨_, rfl, Nat.zero_le _, _, j0, Nx.refl n5.wd⟩, ?_⟩
      rintro j m H6 ⟨rfl, hj6, μ6, hJ, n6⟩
      obtain ⟨z1, z2⟩ := z.2 H6 μ6 n6 j
      by_cases hlt2 : j < es.length
      · obtain ⟨go2, yl2⟩ := z2 es[j] (by simp [hlt2])
        refine .inr ⟨go2, fun H7 => ∃ μ7, J (j + 1) μ7 ∧ Nx K H5 μ5 H7 μ7, fun H7 ⟨μ7, a, b⟩ => ⟨_, by omega, rfl, hlt2, μ7, a, b⟩, fun x2 H7 hx2 => ?_⟩
        obtain ⟨n7, r7⟩ := yl2 x2 H7 hx2
        have s7 : StOk K H7 μ6 (wipe σ3 vs1) (wipeE ρ3 vs1) := by
          have q := ((s4.next n5).next n6).next n7
          exact ⟨renv_wipe q.env vs1, q.wd⟩
        refine ⟨wipeE ρ3 vs1, μ6, es[j], _, s7, r7, jstep j es[j] μ6 (by simp [hlt2]) hJ, fun ρ8 σ8 hb8 s8 hl8 hj8 => ⟨wipe_same hl8 hj8 hs2, ?_⟩⟩
        refine Lift.go (F := A2) (R := RB) s8 hb8 fun b8 μ9 v9 H9 g9 s9 n9 e9 => ?_
        cases (show v9 = b8 from e9)
        have n79 := (n6.trans n7).trans n9
        cases b8 with
        | false =>
          rw [if_neg Bool.false_ne_true]
          exact ⟨μ9, g9, n79⟩
        | true =>
          rw [if_pos rfl]
          refine Lift.go (F := Fe) s9 g9 fun yd μa yv Ha ⟨acc, ha, hla, hJa⟩ sa na ra => ?_
          obtain ⟨xs, ea, rx, za⟩ := sa.wd p _ ha
          exact ⟨xs, ea, by rw [rx.length]; exact hla, _, hJa, (n79.trans na).trans (Nx.put sa.wd (fun z => by rw [ha] at z; cases z) ⟨_, rfl, rx.append (.cons ra .nil), by rw [List.length_append, List.length_singleton]; omega⟩)⟩
      · have e : j = es.length := by omega
        subst e
        exact .inl ⟨z1 (Nat.le_refl _), μ6, jfin μ6 hJ, nn5.trans n6⟩
  · have e : i = ds.length := by omega
    subst e
    refine .inl ⟨y1 (Nat.le_refl _), ?_⟩
    obtain ⟨acc, ha, q⟩ := fin μ' hI
    obtain ⟨n6, r6⟩ := Nx.frz n'.wd ha
    exact k _ _ _ H' q ((n1.trans n').trans n6) r6
section
variable {X : Cx} {elt tg iter tg1 iter1 : Expr} {ifs ifs1 : List Expr} {scope : Scope} {own : List (Str × Nat)} {pos : Pos} {F F2 : TF (List D)} {slots slots2 : List Nat} {g g2 : TGD} {A A2 : TF Bool} {Fe : TF D}
theorem de_lc2 (own : List (Str × Nat)) (vs1 : List Nat) (hc : X.calm = true) (hN : X.N.Nodup) (hi : DI X tg iter F) (ok : BlkOk X.N X.env.scope scope own)
    (hg : ∀ (s : Shared) (H : Hp) (C : Addr) (cl : List (Str × Addr)) (fp : List Addr), DG (X.blk s H scope (compEnvC scope cl C X.env) fp) tg slots g) (ht : ∀ (s : Shared) (H : Hp) (C : Addr) (cl : List (Str × Addr)) (fp : List Addr), DTs (X.blk s H scope (compEnvC scope cl C X.env) fp) ifs A)
    (hi1 : ∀ (s : Shared) (H : Hp) (C : Addr) (cl : List (Str × Addr)) (fp : List Addr), DI (X.blk s H scope (compEnvC scope cl C X.env) fp) tg1 iter1 F2)
    (hg1 : ∀ (s : Shared) (H : Hp) (C : Addr) (cl : List (Str × Addr)) (fp : List Addr), DG (X.blk s H scope (compEnvC scope cl C X.env) fp) tg1 slots2 g2) (ht1 : ∀ (s : Shared) (H : Hp) (C : Addr) (cl : List (Str × Addr)) (fp : List Addr), DTs (X.blk s H scope (compEnvC scope cl C X.env) fp) ifs1 A2)
    (he : ∀ (s : Shared) (H : Hp) (C : Addr) (cl : List (Str × Addr)) (fp : List Addr), DE (X.blk s H scope (compEnvC scope cl C X.env) fp) elt Fe)
    (hv : ∀ i ∈ vs1, i ∈ own.map (·.2) := by decide) (hsl : ∀ j ∈ slots, j ∈ own.map (·.2) := by decide) (hsl2 : ∀ j ∈ slots2, j ∈ vs1 := by decide) (hs : ∀ x, foldedSetIterable iter X.env x = pure x := by intro _; rfl) (hs1 : ∀ env x, foldedSetIterable iter1 env x = pure x := by intro _ _; rfl) :
    DE X (.ListComp elt [⟨tg, iter, ifs, 0⟩, ⟨tg1, iter1, ifs1, 0⟩] scope pos) (dLc2 F g A F2 g2 A2 Fe (own.map (·.2)) vs1) := weakE (pe_lc2 hc hN hi ok hv hg ht hi1 hg1 ht1 he hs hs1) fun σ H Q h => lc2_go hsl hsl2 h
end

/-! ### wishes met: plain evaluation -/
/-- F hands back one of S, and leaves the objects as they are -/
def EvS {β : Type} (F : TF β) (ρ : Env) (μ : Mu) (S : β → Prop) : Prop := ∀ Q : β → Mu → Prop, (∀ d, S d → Q d μ) → F ρ μ Q
/-- one turn that hands back r with S d r, where the new list stands anywhere -/
def TurnS (g : TGD) (A : TF Bool) (Fe : TF D) (ρw : Env) (μ : Mu) (S : D → Option D → Prop) (d : D) : Prop := ∀ (p : Addr) (acc : List D), μ p = none → ∀ N : Option D → Mu → Prop, (∀ r, S d r → N r (μ.put p (.lst acc))) → lcTurn g A Fe ρw d (μ.put p (.lst acc)) N
inductive All2 {α β : Type} (R : α → β → Prop) : List α → List β → Prop
  | nil : All2 R [] []
  | cons {a b l m} : R a b → All2 R l m → All2 R (a :: l) (b :: m)
theorem All2.snoc {α β : Type} {R : α → β → Prop} : ∀ {l : List α} {m : List β} {a : α} {b : β}, All2 R l m → R a b → All2 R (l ++ [a]) (m ++ [b])
  | _, _, _, _, .nil, h => .cons h .nil
  | _, _, _, _, .cons r t, h => .cons r (All2.snoc t h)
theorem All2.len {α β : Type} {R : α → β → Prop} : ∀ {l : List α} {m : List β}, All2 R l m → l.length = m.length
  | _, _, .nil => rfl
  | _, _, .cons _ t => by simp [All2.len t]
/-- a comprehension by its turns -/
theorem lc_by {F : TF (List D)} {g : TGD} {A : TF Bool} {Fe : TF D} {vs : List Nat} {ρ : Env} {μ : Mu} {Q : D → Mu → Prop} {ds : List D} (S : D → Option D → Prop) (hF : ∀ R : List D → Mu → Prop, R ds μ → F ρ μ R)
    (ht : ∀ d ∈ ds, TurnS g A Fe (wipeE ρ vs) μ S d) (hQ : ∀ rs, All2 S ds rs → Q (.lst (rs.filterMap id)) μ) : dLc F g A Fe vs ρ μ Q := by
  refine hF _ (fun p hp => ⟨fun i μ' => ∃ rs, All2 S (ds.take i) rs ∧ (rs.filterMap id).length ≤ i ∧ μ' = μ.put p (.lst (rs.filterMap id)), ⟨[], by simpa using All2.nil, by simp, rfl⟩, fun i d μ' hd ⟨rs, h1, h2, h3⟩ => ?_, fun μ' ⟨rs, h1, h2, h3⟩ => ?_⟩)
  · subst h3
    refine ht d (List.mem_of_getElem? hd) p _ hp _ fun r hr => ?_
    have e : ds.take (i + 1) = ds.take i ++ [d] := by rw [List.take_add_one, hd]; rfl
    cases r with
    | none => exact ⟨rs ++ [none], by rw [e]; exact h1.snoc hr, by simp [List.filterMap_append]; omega, by simp [List.filterMap_append]⟩
    | some y => exact ⟨_, Mu.put_same, h2, rs ++ [some y], by rw [e]; exact h1.snoc hr, by simp [List.filterMap_append]; omega, by rw [Mu.put_put]; simp [List.filterMap_append]⟩
  · subst h3
    refine ⟨_, Mu.put_same, ?_⟩
    rw [Mu.put_del hp]
    exact hQ rs (by rw [List.take_length] at h1; exact h1)
theorem all2_fun {α β : Type} {f : α → β} : ∀ {l : List α} {m : List β}, All2 (fun a b => b = f a) l m → m = l.map f
  | _, _, .nil => rfl
  | _, _, .cons r t => by rw [List.map_cons, r, all2_fun t]
/-- each turn gives h of the item -/
theorem lc_map {F : TF (List D)} {g : TGD} {A : TF Bool} {Fe : TF D} {vs : List Nat} {ρ : Env} {μ : Mu} {Q : D → Mu → Prop} {ds : List D} (h : D → D) (hF : ∀ R : List D → Mu → Prop, R ds μ → F ρ μ R)
    (ht : ∀ d ∈ ds, TurnS g A Fe (wipeE ρ vs) μ (fun d r => r = some (h d)) d) (hQ : Q (.lst (ds.map h)) μ) : dLc F g A Fe vs ρ μ Q :=
  lc_by (fun d r => r = some (h d)) hF ht fun rs hr => by
    rw [all2_fun hr, List.filterMap_map]
    have : (id ∘ fun d => some (h d)) = fun d => some (h d) := rfl
    rw [this, List.filterMap_eq_map']
    exact hQ
/-- each turn gives h of the item where f says so -/
theorem lc_fmap {F : TF (List D)} {g : TGD} {A : TF Bool} {Fe : TF D} {vs : List Nat} {ρ : Env} {μ : Mu} {Q : D → Mu → Prop} {ds : List D} (h : D → Option D) (hF : ∀ R : List D → Mu → Prop, R ds μ → F ρ μ R)
    (ht : ∀ d ∈ ds, TurnS g A Fe (wipeE ρ vs) μ (fun d r => r = h d) d) (hQ : Q (.lst (ds.filterMap h)) μ) : dLc F g A Fe vs ρ μ Q :=
  lc_by (fun d r => r = h d) hF ht fun rs hr => by
    rw [all2_fun hr, List.filterMap_map]
    exact hQ
/-- a loop by its turns, the invariant upon the part passed -/
theorem for_by {F : TF (List D)} {g : TGD} {body : TSD} {E : EndsD} {ρ : Env} {μ : Mu} {ds : List D} (I : List D → Env → Mu → Prop) (hF : ∀ R : List D → Mu → Prop, R ds μ → F ρ μ R) (h0 : I [] ρ μ)
    (ht : ∀ (pre : List D) (d : D) (post : List D) ρ' μ', ds = pre ++ d :: post → I pre ρ' μ' → g d ρ' fun ρ2 => body { E with nx := I (pre ++ [d]), ct := I (pre ++ [d]), bk := E.nx } ρ2 μ') (hd : ∀ ρ' μ', I ds ρ' μ' → E.nx ρ' μ') : sFor F g body E ρ μ := by
  refine hF _ ⟨fun i ρ' μ' => I (ds.take i) ρ' μ', by simpa using h0, fun i d ρ' μ' hi hI => ?_, fun ρ' μ' hI => hd ρ' μ' (by have h : I (ds.take ds.length) ρ' μ' := hI; rw [List.take_length] at h; exact h)⟩
  have e : ds.take (i + 1) = ds.take i ++ [d] := by rw [List.take_add_one, hi]; rfl
  have hl := (List.getElem?_eq_some_iff.mp hi).1
  have e2 : ds = ds.take i ++ d :: ds.drop (i + 1) := by
    have h1 := (List.getElem?_eq_some_iff.mp hi).2
    have := List.take_append_drop i ds
    rw [List.drop_eq_getElem_cons hl, h1] at this
    exact this.symm
  show g d ρ' fun ρ2 => body { E with nx := I (ds.take (i + 1)), ct := I (ds.take (i + 1)), bk := E.nx } ρ2 μ'
  rw [e]
  exact ht (ds.take i) d (ds.drop (i + 1)) ρ' μ' e2 hI
end DL
end

-- part DL7
section
namespace DL
open PySem L2
/-! ### places of written lists -/
section
variable {α : Type} {a b c d e : α} {l : List α}
theorem at0 : atI (a :: l) 0 = some a := by
  unfold atI ixN
  rw [if_pos (by omega), if_pos (by simp only [List.length_cons]; omega)]
  rfl
theorem at1 : atI (a :: b :: l) 1 = some b := by
  unfold atI ixN
  rw [if_pos (by omega), if_pos (by simp only [List.length_cons]; omega)]
  rfl
theorem at2 : atI (a :: b :: c :: l) 2 = some c := by
  unfold atI ixN
  rw [if_pos (by omega), if_pos (by simp only [List.length_cons]; omega)]
  rfl
theorem at3 : atI (a :: b :: c :: d :: l) 3 = some d := by
  unfold atI ixN
  rw [if_pos (by omega), if_pos (by simp only [List.length_cons]; omega)]
  rfl
theorem at4 : atI (a :: b :: c :: d :: e :: l) 4 = some e := by
  unfold atI ixN
  rw [if_pos (by omega), if_pos (by simp only [List.length_cons]; omega)]
  rfl
theorem atI_map {β : Type} (f : α → β) (l : List α) (i : Int) : atI (l.map f) i = (atI l i).map f := by
  unfold atI
  rw [List.length_map]
  cases ixN l.length i with
  | none => rfl
  | some j => simp
theorem atI_in {l : List α} {i : Int} (h0 : 0 ≤ i) (h1 : i < l.length) : ∃ x, atI l i = some x ∧ l[i.toNat]? = some x := by
  have hj : i.toNat < l.length := by omega
  have hx : l[i.toNat]? = some l[i.toNat] := by simp [hj]
  refine ⟨_, ?_, hx⟩
  have h := atI_nat hx
  rw [show ((i.toNat : Nat) : Int) = i by omega] at h
  exact h
theorem atI_back {l : List α} {x : α} : atI (l ++ [x]) (-1) = some x := atI_last l x
end
theorem sz_small {n : Nat} (h : n ≤ 10000) : n ≤ sizeLine := Nat.le_trans h (by decide)
theorem sz_small' {n : Nat} (h : n < 10000) : n < sizeLine := Nat.lt_of_lt_of_le h (by decide)
theorem plains_map {α : Type} {n : Nat} {f : α → D} (l : List α) (h : ∀ a ∈ l, plain n (f a) = true) : plains n (l.map f) = true := by
  induction l with
  | nil => rfl
  | cons a l ih =>
    simp only [List.map_cons, plains, Bool.and_eq_true]
    exact ⟨h a (by simp), ih fun b hb => h b (by simp [hb])⟩
theorem plain_mono : ∀ {n m : Nat} {d : D}, n ≤ m → plain n d = true → plain m d = true
  | n, m, .non, _, _ => by cases m <;> rfl
  | n, m, .bl _, _, _ => by cases m <;> rfl
  | n, m, .int _, _, _ => by cases m <;> rfl
  | n, m, .str _, _, _ => by cases m <;> rfl
  | n, m, .ptr _, _, p => by cases n <;> simp [plain] at p
  | n, m, .scr _, _, p => by cases n <;> simp [plain] at p
  | n, m, .ty _, _, p => by cases n <;> simp [plain] at p
  | n, m, .tup ds, h, p => by
    cases n with
    | zero => simp [plain] at p
    | succ n =>
      cases m with
      | zero => omega
      | succ m =>
        simp only [plain] at p ⊢
        exact go ds (by omega) p
  | n, m, .lst ds, h, p => by
    cases n with
    | zero => simp [plain] at p
    | succ n =>
      cases m with
      | zero => omega
      | succ m =>
        simp only [plain] at p ⊢
        exact go ds (by omega) p
where
  go : ∀ {n m : Nat} (ds : List D), n ≤ m → plains n ds = true → plains m ds = true
  | _, _, [], _, _ => by simp [plains]
  | n, m, d :: ds, h, p => by
    simp only [plains, Bool.and_eq_true] at p ⊢
    exact ⟨plain_mono h p.1, go ds h p.2⟩
theorem eqvDs_map {α : Type} {f : α → D} (he : ∀ a b, eqvD (f a) (f b) = true ↔ a = b) : ∀ l m : List α, eqvDs (l.map f) (m.map f) = true ↔ l = m
  | [], [] => by simp [eqvDs]
  | [], b :: m => by simp [eqvDs]
  | a :: l, [] => by simp [eqvDs]
  | a :: l, b :: m => by
    simp only [List.map_cons, eqvDs, Bool.and_eq_true, he, eqvDs_map he l m, List.cons.injEq]
theorem eqvDs_dec {α : Type} [DecidableEq α] {f : α → D} (he : ∀ a b, eqvD (f a) (f b) = true ↔ a = b) (l m : List α) : eqvDs (l.map f) (m.map f) = decide (l = m) := by
  rw [Bool.eq_iff_iff, eqvDs_map he, decide_eq_true_eq]
theorem eqv_str (a b : Str) : eqvD (.str a) (.str b) = true ↔ a = b := by simp [eqvD]
theorem eqv_int (a b : Int) : eqvD (.int a) (.int b) = true ↔ a = b := by simp [eqvD]
theorem any_str (ks : List Str) (k : Str) : ((ks.map D.str).any fun e => eqvD e (.str k)) = decide (k ∈ ks) := by
  rw [Bool.eq_iff_iff, List.any_eq_true, decide_eq_true_eq]
  constructor
  · rintro ⟨e, he, h⟩
    obtain ⟨j, hj, rfl⟩ := List.mem_map.mp he
    have := (eqv_str j k).mp h
    rw [← this]; exact hj
  · intro h
    exact ⟨.str k, List.mem_map.mpr ⟨k, h, rfl⟩, (eqv_str k k).mpr rfl⟩
theorem flat_strs (ks : List Str) : (ks.map D.str).all flatD = true := by
  rw [List.all_eq_true]
  intro x hx
  obtain ⟨j, hj, rfl⟩ := List.mem_map.mp hx
  rfl
theorem bls_map {α : Type} (f : α → Bool) : ∀ l : List α, bls (l.map fun a => D.bl (f a)) = some (l.map f)
  | [] => rfl
  | a :: l => by rw [List.map_cons, bls, bls_map f l]; rfl
theorem ints_map {α : Type} (f : α → Int) : ∀ l : List α, intsD (l.map fun a => D.int (f a)) = some (l.map f)
  | [] => rfl
  | a :: l => by rw [List.map_cons, intsD, ints_map f l]; rfl
theorem set_none {α : Type} {l : List α} {i : Nat} {x : α} : (l.set i x)[i]? = if i < l.length then some x else none := by
  by_cases h : i < l.length
  · rw [List.getElem?_set_self h, if_pos h]
  · rw [List.getElem?_eq_none (by simpa using h), if_neg h]

/-! ### what the wishes say of known data -/
section
variable {μ : Mu} {P : D → Prop} {i j : Int} {b : Bool} {x y : D} {ds es : List D} {s t : Str} {p : Addr} {lo hi : Option Int}
theorem ix_l : fIx μ (.lst ds) (.int i) P = ∃ d, atI ds i = some d ∧ P d := rfl
theorem ix_t : fIx μ (.tup ds) (.int i) P = ∃ d, atI ds i = some d ∧ P d := rfl
theorem ix_s : fIx μ (.str s) (.int i) P = ∃ c, atI s.cps.toList i = some c ∧ P (.str ⟨#[c]⟩) := rfl
theorem ix_p : fIx μ (.ptr p) (.int i) P = ∃ ds d, μ p = some (.lst ds) ∧ atI ds i = some d ∧ P d := rfl
theorem add_i : fAdd μ (.int i) (.int j) P = P (.int (i + j)) := rfl
theorem add_s : fAdd μ (.str s) (.str t) P = (s.length + t.length ≤ sizeLine ∧ P (.str (s ++ t))) := rfl
theorem add_l : fAdd μ (.lst ds) (.lst es) P = (ds.length + es.length ≤ sizeLine ∧ P (.lst (ds ++ es))) := rfl
theorem add_t : fAdd μ (.tup ds) (.tup es) P = (ds.length + es.length ≤ sizeLine ∧ P (.tup (ds ++ es))) := rfl
theorem mul_i : fMul μ (.int i) (.int j) P = (CMul i j ∧ P (.int (i * j))) := rfl
theorem mul_b : fMul μ (.int i) (.bl b) P = P (.int (i * b2I b)) := rfl
theorem sub_i : fSub μ (.int i) (.int j) P = P (.int (i - j)) := by simp [fSub, fII]
theorem fdiv_i : fFdiv μ (.int i) (.int j) P = (CDiv i j ∧ P (.int (i / j))) := rfl
theorem mod_i : fMod μ (.int i) (.int j) P = (0 < j ∧ P (.int (i % j))) := rfl
theorem pow_i : fPow μ (.int i) (.int j) P = (CPow i j ∧ P (.int (i ^ j.toNat))) := rfl
theorem shl_i : fShl μ (.int i) (.int j) P = (CPow i j ∧ P (.int (i * 2 ^ j.toNat))) := rfl
theorem shr_i : fShr μ (.int i) (.int j) P = (0 ≤ j ∧ P (.int (i / 2 ^ j.toNat))) := rfl
theorem and_i : fAnd μ (.int i) (.int j) P = P (.int (Builtin.bitAnd i j)) := by simp [fAnd, fII]
theorem lt_i : fLt μ (.int i) (.int j) P = P (.bl (decide (i < j))) := rfl
theorem le_i : fLe μ (.int i) (.int j) P = P (.bl (decide (i ≤ j))) := rfl
theorem gt_i : fGt μ (.int i) (.int j) P = P (.bl (decide (j < i))) := rfl
theorem ge_i : fGe μ (.int i) (.int j) P = P (.bl (decide (j ≤ i))) := rfl
theorem le_s : fLe μ (.str s) (.str t) P = P (.bl (!decide (t.cps.toList < s.cps.toList))) := rfl
theorem in_t {neg : Bool} : fIn neg μ (.str s) (.tup ds) P = (ds.all flatD = true ∧ P (.bl (neg ^^ ds.any fun e => eqvD e (.str s)))) := by simp [fIn, flatD]
theorem in_l {neg : Bool} : fIn neg μ (.str s) (.lst ds) P = (ds.all flatD = true ∧ P (.bl (neg ^^ ds.any fun e => eqvD e (.str s)))) := by simp [fIn, flatD]
theorem in_s {neg : Bool} : fIn neg μ (.str s) (.str t) P = P (.bl (neg ^^ (!(Builtin.Str.occurrences t s 0 t.length 1).isEmpty))) := rfl
theorem len_l : fLen μ [.lst ds] P = P (.int ds.length) := rfl
theorem len_t : fLen μ [.tup ds] P = P (.int ds.length) := rfl
theorem len_s : fLen μ [.str s] P = P (.int s.length) := rfl
theorem len_p : fLen μ [.ptr p] P = ∃ a, μ p = some (.lst a) ∧ P (.int a.length) := rfl
theorem list_l : fList μ [.lst ds] P = P (.lst ds) := rfl
theorem list_t : fList μ [.tup ds] P = P (.lst ds) := rfl
theorem list_s {ns : List Int} : fList μ [.scr ns] P = (ns.length ≤ sizeLine ∧ P (.lst (ns.map D.int))) := rfl
theorem list_p : fList μ [.ptr p] P = ∃ a, μ p = some (.lst a) ∧ P (.lst a) := rfl
theorem tuple_l : fTuple μ [.lst ds] P = P (.tup ds) := rfl
theorem tuple_t : fTuple μ [.tup ds] P = P (.tup ds) := rfl
theorem int_i : fInt μ [.int i] P = P (.int i) := rfl
theorem int_b : fInt μ [.bl b] P = P (.int (if b then 1 else 0)) := rfl
theorem abs_i : fAbs μ [.int i] P = P (.int (absI i)) := rfl
theorem max_i : fMax2 μ [.int i, .int j] P = P (.int (maxI i j)) := rfl
theorem min_i : fMin2 μ [.int i, .int j] P = P (.int (minI i j)) := rfl
theorem all_l : fAll μ [.lst ds] P = ∃ bs, bls ds = some bs ∧ P (.bl (bs.all id)) := rfl
theorem any_l : fAny μ [.lst ds] P = ∃ bs, bls ds = some bs ∧ P (.bl (bs.any id)) := rfl
theorem isi_1 {n : String} : fIsi μ [x, .ty n] P = ∃ t, tyD x = some t ∧ okTy n = true ∧ P (.bl (isA t n)) := rfl
theorem isi_n {ts : List D} : fIsi μ [x, .tup ts] P = ∃ t ns, tyD x = some t ∧ inTys ts = some ns ∧ ns.all okTy = true ∧ P (.bl (ns.any (isA t))) := rfl
theorem sl_l : fSl (.lst ds) lo hi P = P (.lst (cutD ds lo hi)) := rfl
theorem sl_t : fSl (.tup ds) lo hi P = P (.tup (cutD ds lo hi)) := rfl
theorem sl_s : fSl (.str s) lo hi P = P (.str (cutS s lo hi)) := rfl
theorem neg_i : fNeg (.int i) P = P (.int (-i)) := rfl
theorem isN_i : fIsN μ x y P = (y = .non ∧ P (.bl (isN x))) := rfl
theorem notN_i : fNotN μ x y P = (y = .non ∧ P (.bl (!isN x))) := rfl
theorem eq_x : fEq μ x y P = (plain 16 x = true ∧ plain 16 y = true ∧ P (.bl (eqvD x y))) := rfl
theorem ne_x : fNe μ x y P = (plain 16 x = true ∧ plain 16 y = true ∧ P (.bl (!eqvD x y))) := rfl
end
section
variable {μ : Mu} {ρ : Env} {Q : List D → Mu → Prop} {ds : List D} {F : TF D} {i j : Int}
theorem seq_l (hF : ∀ R : D → Mu → Prop, R (.lst ds) μ → F ρ μ R) : ∀ R : List D → Mu → Prop, R ds μ → iSeq F ρ μ R := fun R h => hF _ h
theorem seq_t (hF : ∀ R : D → Mu → Prop, R (.tup ds) μ → F ρ μ R) : ∀ R : List D → Mu → Prop, R ds μ → iSeq F ρ μ R := fun R h => hF _ h
theorem rg1 {A : TF (List D)} (hi : smI i) (hF : ∀ R : List D → Mu → Prop, R [.int i] μ → A ρ μ R) : ∀ R : List D → Mu → Prop, R (rngD 0 i.toNat) μ → iRg1 A ρ μ R := fun R h => hF _ ⟨hi, h⟩
theorem rg2 {A : TF (List D)} (hi : smI i) (hj : smI j) (hF : ∀ R : List D → Mu → Prop, R [.int i, .int j] μ → A ρ μ R) : ∀ R : List D → Mu → Prop, R (rngD i (j - i).toNat) μ → iRg2 A ρ μ R := fun R h => hF _ ⟨hi, hj, h⟩
end
theorem z0 : (0 ≤ sizeLine) = True := eq_true (by decide)
theorem z1 : (1 ≤ sizeLine) = True := eq_true (by decide)
theorem z2 : (2 ≤ sizeLine) = True := eq_true (by decide)
theorem z3 : (3 ≤ sizeLine) = True := eq_true (by decide)
theorem z4 : (4 ≤ sizeLine) = True := eq_true (by decide)
theorem z5 : (5 ≤ sizeLine) = True := eq_true (by decide)
theorem z6 : (6 ≤ sizeLine) = True := eq_true (by decide)
theorem z12 : (12 ≤ sizeLine) = True := eq_true (by decide)
end DL
end

-- part DLS
section
/-! sorted(set(texts)): the set as a payload of texts, its walk, its order. -/
namespace DL
open PySem L2
def SortedS (ys : List Str) : Prop := ys.Pairwise fun a b => a.cps.toList < b.cps.toList
end DL
namespace TS
open PySem PySem.Spec PyProof.Rows PySem.Froz L2

def txt (e : Int × Value) : Str := match e.2 with | .str x _ => x | _ => Str.empty
/-- the payload holds the texts l, and can be walked -/
structure Tx (w : World) (D : SD) (l : List Str) : Prop where
  each : ∀ e ∈ D.1.toList, ∃ k u, e = (hashStr w k, Value.str k u)
  perm : (D.1.toList.map txt).Perm l
  ris : Ris D.2.2.place.toList
  led : w.params.followText "set-order" = true ∨ D.2.2.led = true
theorem Tx.grow {w : World} {D : SD} {l : List Str} (F : Tx w D l) (k : Str) (u : Tok) : Tx w (addTx (hashStr w k) (.str k u) D) (k :: l) := by
  obtain ⟨es, ep, t⟩ := D
  obtain ⟨f1, f2, f3, f4⟩ := F
  have pm := layNew_perm t es (hashStr w k) (.str k u)
  have ri := layNew_ris t es (hashStr w k) (.str k u) f3
  have le := layNew_led t es (hashStr w k) (.str k u)
  unfold addTx
  dsimp only
  generalize layNew t es (hashStr w k) (.str k u) = Z at pm ri le ⊢
  obtain ⟨ea, ta, wd, gv⟩ := Z
  dsimp only at pm ri le ⊢
  rw [Array.toList_push] at pm
  have e1 : ∀ e ∈ ea.toList, ∃ k u, e = (hashStr w k, Value.str k u) := fun e he => by
    rcases List.mem_append.mp (pm.mem_iff.mp he) with h | h
    · exact f1 e h
    · exact ⟨k, u, by simpa using h⟩
  have e2 : (ea.toList.map txt).Perm (k :: l) := by
    have h := pm.map txt
    rw [List.map_append] at h
    exact (h.trans (List.perm_append_singleton _ _)).trans (List.Perm.cons k f2)
  have hr : Ris (if ta.plain = true then { ta with plain := false } else ta).place.toList := by split <;> exact ri
  have hl : w.params.followText "set-order" = true ∨ (if ta.plain = true then { ta with plain := false } else ta).led = true := by
    rcases f4 with h | h
    · exact Or.inl h
    · exact Or.inr (by split <;> exact le.trans h)
  generalize (if ta.plain = true then { ta with plain := false } else ta) = tb at hr hl ⊢
  unfold tailTx
  split
  · have p2 := relayAll_perm tb ea (SetTable.grown ea.size)
    exact ⟨fun e he => e1 e (p2.mem_iff.mp he), (p2.map txt).trans e2, relayAll_ris _ _ _, hl.imp id fun h => (relayAll_led tb ea _).trans h⟩
  · exact ⟨e1, e2, hr, hl⟩
section
variable {P : Program} {w : World} {A : Around} {E : Value → Shared → Prop} {s : Shared}
/-- the add of a text that is there -/
theorem add_old {a : Addr} {T : String} {D : SD} {l : List Str} {k : Str} {u : Tok} {Q : Bool → Shared → Prop} (ho : s.heap.get? a = some (sObj T D)) (F : TxOk P w D l) (hk : k ∈ l) (hb : l.length < scanBound) (h : Q false s) :
    wpAny (model P w) A (setAddHashed a (.str k u) (hashStr w k)) Q E s := by
  obtain ⟨es, ep, t⟩ := D
  have hd : (sObj T (es, ep, t)).data = .set es ep t := rfl
  have hfit : t.fits es.size = true := F.fit
  have hels : ElemsOf (strKind P w) es.toList := F.el
  have hsize : es.size = l.length := F.sz
  unfold setAddHashed setAddHashedIn
  refine wpAny_holding (wpAny_bind (wpAny_setState_of ho hd hfit ?_))
  dsimp only
  rw [byScan_of rfl (by omega) hels]
  simp only [↓reduceIte]
  unfold setAddByScan
  refine wpAny_bind (wpAny_bind (wpAny_rule (wpAny_bind (wpAny_setScan_of (knd := strKind P w) (k := k) (is_str k u) ho hd hfit hels ?_))))
  cases hi : es.toList.findIdx? (fun e => (strKind P w).is k e.2) with
  | none =>
    obtain ⟨e, he, q⟩ := (F.mem k).mp hk
    have c := (List.findIdx?_eq_none_iff.mp hi) e he
    rw [q] at c; cases c
  | some j => exact wpAny_pure (wpAny_pure h)
/-- xs's texts, one after another, into the set -/
theorem fill {I : Addr} {fp wr : List Addr} {G : Array GenState → Array GenState → Prop} {n : Nat} {Pv : Nat → Value → Prop} {St : Nat → Shared → Prop} {R : Result → Shared → Prop}
    (W : WalksS P w A.in1 I fp wr G n Pv St) (S : Addr) (hSf : S ∉ fp) (xs : List Str) (hn : n = xs.length) (hb : xs.length + 1 < scanBound) (hv : ∀ i v, Pv i v → ∃ k t, xs[i]? = some k ∧ v = .str k t) :
    ∀ (m i : Nat) (s : Shared) (D : SD) (l : List Str), n - i = m → i ≤ n → St i s → s.heap.get? S = some (sObj "set" D) → TxOk P w D l → Tx w D l → l.Nodup → (∀ k, k ∈ l ↔ k ∈ xs.take i) → l.length ≤ i →
      (∀ s' D' l', Moved (S :: wr) G s s' → s'.heap.get? S = some (sObj "set" D') → TxOk P w D' l' → Tx w D' l' → l'.Nodup → (∀ k, k ∈ l' ↔ k ∈ xs) → l'.length ≤ n → R (.ok (.ret .none)) s') →
      codeAny (model P w) A (.builtin "set.update.loop" ⟨[.ref S, .ref I], []⟩) R s := by
  have nS : S ∉ wr := fun h => hSf (W.sub _ h)
  have up : ∀ b ∈ wr, b ∈ S :: wr := fun b h => List.mem_cons_of_mem _ h
  intro m
  induction m with
  | zero =>
    intro i s D l hm hi hst hS F1 F2 nd hmem hle hR
    have hin : i = n := by omega
    subst hin
    rw [List.take_of_length_le (by omega)] at hmem
    refine codeAny_builtin F.entry_set_update_loop ?_; rw [Around.under_plainId F.plain_set_update_loop _]
    show wpAny _ A.in1 (pyNext (.ref I) >>= _) _ _ s
    exact wpAny_bind (W.done s _ _ hst fun s' mv => wpAny_pure (hR s' D l (mv.mono up) (mv.heap S _ nS hS) F1 F2 nd hmem hle))
  | succ m ih =>
    intro i s D l hm hi hst hS F1 F2 nd hmem hle hR
    have hlt : i < n := by omega
    refine codeAny_builtin F.entry_set_update_loop ?_; rw [Around.under_plainId F.plain_set_update_loop _]
    show wpAny _ A.in1 (pyNext (.ref I) >>= _) _ _ s
    refine wpAny_bind (W.item i s _ _ hlt hst fun v s' hP hst' mv => ?_)
    obtain ⟨z, t, hz, rfl⟩ := hv i v hP
    have hS' := mv.heap S _ nS hS
    have tk1 : xs.take (i + 1) = xs.take i ++ [z] := by rw [List.take_add_one, hz]; rfl
    show wpAny _ A.in1 (holding [Value.str z t] (setAdd S (.str z t)) >>= _) _ _ s'
    unfold setAdd
    refine wpAny_bind (wpAny_holding (wpAny_holding (wpAny_bind ((strKind P w).pyHash (k := z) (is_str z t) ?_))))
    by_cases hk : z ∈ l
    · refine add_old (s := { s' with toks := s'.toks + 1 }) hS' F1 hk (by omega) ?_
      refine wpAny_pure ⟨plainId_quiet F.plain_set_update_loop _, ih (i + 1) _ D l (by omega) hlt (W.frame _ s' _ _ hst' (Nat.le_succ _) fun b _ o e => e) hS' F1 F2 nd (fun k => ?_) (by omega) fun s2 D2 l2 mv2 => ?_⟩
      · rw [tk1, List.mem_append, ← hmem k]
        constructor
        · exact Or.inl
        · rintro (h | h)
          · exact h
          · rw [List.mem_singleton] at h; rw [h]; exact hk
      · exact hR s2 D2 l2 (Moved.trans W.gtrans ((mv.mono up).then_heap (Nat.le_succ _) fun b o _ e => e) mv2)
    · refine add_x (s := { s' with toks := s'.toks + 1 }) hS' F1 hk (by omega) ?_
      have gs := get_upd (sObj "set" (addTx (hashStr w z) (.str z t) D)) hS' rfl
      have go : ∀ b o, b ≠ S → s'.heap.get? b = some o → (s'.heap.update S fun _ => sObj "set" (addTx (hashStr w z) (.str z t) D)).get? b = some o := fun b o hne e => (Heap.get?_update_other _ _ (Ne.symm hne)).trans e
      refine wpAny_pure ⟨plainId_quiet F.plain_set_update_loop _, ih (i + 1) _ _ (z :: l) (by omega) hlt (W.frame _ s' _ _ hst' (Nat.le_succ _) fun b hb o e => go b o (fun h => hSf (h ▸ hb)) e) gs (add_ok t F1) (F2.grow z t) (List.nodup_cons.mpr ⟨hk, nd⟩) (fun k => ?_) (by rw [List.length_cons]; omega) fun s2 D2 l2 mv2 => ?_⟩
      · rw [tk1, List.mem_append, List.mem_cons, hmem k, List.mem_singleton]
        exact Or.comm
      · exact hR s2 D2 l2 (Moved.trans W.gtrans ((mv.mono up).then_heap (Nat.le_succ _) fun b o hb e => go b o (fun h => hb (by rw [h]; exact List.mem_cons_self)) e) mv2)
end
section
variable {P : Program} {w : World} {A : Around} {E : Value → Shared → Prop} {s : Shared}
abbrev emptySet (w : World) : Obj := { cls := .type "set", dict := none, data := .set #[] 0 (.fresh 0 0 (!w.params.followText "set-order")) }
theorem Tx.zero (w : World) : Tx w (#[], 0, .fresh 0 0 (!w.params.followText "set-order")) [] := by
  refine ⟨fun e he => by simp at he, List.Perm.refl _, List.Pairwise.nil, ?_⟩
  cases h : w.params.followText "set-order"
  · exact Or.inr (by rfl)
  · exact Or.inl rfl
/-- what set(xs) leaves at S: all texts of xs, each once; what stood before stands -/
def Filled (P : Program) (w : World) (S : Addr) (xs : List Str) (h h' : Heap) : Prop :=
  ∃ D l, h'.get? S = some (sObj "set" D) ∧ TxOk P w D l ∧ Tx w D l ∧ l.Nodup ∧ (∀ k, k ∈ l ↔ k ∈ xs) ∧ l.length ≤ xs.length ∧ ∀ b o, b ≠ S → h.get? b = some o → h'.get? b = some o
/-- the items of a list of texts, one by one -/
theorem texts_at {items : Array Value} {xs : List Str} (hi : StrsAre items.toList xs) (i : Nat) (v : Value) (e : items[i]? = some v) : ∃ k t, xs[i]? = some k ∧ v = .str k t := by
  have ⟨t, e2⟩ := SS.strs_at hi i v (by rw [Array.getElem?_toList]; exact e)
  have lt : i < xs.length := by
    rw [← StrsAre.len_eq hi, Array.length_toList]
    exact (Array.getElem?_eq_some_iff.mp e).1
  refine ⟨xs[i], t, List.getElem?_eq_getElem lt, ?_⟩
  rw [e2, List.getD_eq_getElem?_getD, List.getElem?_eq_getElem lt]; rfl
/-- an empty set takes in a list of texts -/
theorem takes_texts {id : String} {S q : Addr} {items : Array Value} {xs : List Str} {Q : Unit → Shared → Prop} (hh : A.handled = none) (hS : s.heap.get? S = some (emptySet w)) (hq : s.heap.IsList q items) (hi : StrsAre items.toList xs) (hb : xs.length + 1 < scanBound)
    (h : ∀ h' tk, Filled P w S xs s.heap h' → Q () { s with heap := h', toks := tk }) : wpAny (model P w) A (Builtin.Frozenset.updateFrom id S (.ref q)) Q E s := by
  have size : items.size = xs.length := by rw [← StrsAre.len_eq hi, Array.length_toList]
  have ⟨ol, hol, hcl, n, hdl⟩ := hq
  have tyq : s.TypeIs (.ref q) "list" := ⟨ol, hol, hcl⟩
  have aside : q ≠ S := fun e => by
    have : ol = emptySet w := Option.some.inj (hol.symm.trans (e ▸ hS))
    rw [this] at hcl
    exact absurd (show Value.type "set" = Value.type "list" from hcl) (by decide)
  have notSet := PySem.F.sub_list_set
  have notFrozen := PySem.F.sub_list_frozenset
  have notDict : (Value.type "list" == Value.type "dict") = false := by decide
  unfold Builtin.Frozenset.updateFrom
  generalize hPI : pyIter = PI
  wp_walk
  subst hPI
  -- the iterator, new, and the loop over it
  refine wpAny_pyIter_list hq (wpAny_bind (wpAny_runValue ?_))
  have newIt : q ≠ s.heap.objs.size := Nat.ne_of_lt (Heap.lt_size hol)
  have W : WalksS P w A.in1 s.heap.objs.size [s.heap.objs.size, q] [s.heap.objs.size] _ items.size _ _ := (Walks.list (show A.in1.handled = none from hh) s.heap.objs.size q newIt items).toS
  have off : S ∉ [s.heap.objs.size, q] := by
    have lt := Heap.lt_size hS
    simpa using ⟨Nat.ne_of_lt lt, Ne.symm aside⟩
  refine fill W S off xs size hb (texts_at hi) (items.size - 0) 0 { s with heap := s.heap.push { cls := .type "list_iterator", data := .fields #[.ref q, .int 0 0] } } (#[], 0, .fresh 0 0 (!w.params.followText "set-order")) [] rfl (Nat.zero_le _) ⟨⟨_, Heap.get?_push_size _ rfl, rfl, rfl⟩, hq.push _⟩
    (Heap.get?_push_of_some _ hS) (TxOk.nil rfl) (Tx.zero w) List.nodup_nil (fun k => by simp) (Nat.le_refl _) fun s' D l mv c1 c2 c3 c4 c5 c6 => ?_
  have whole : s' = { s with heap := s'.heap, toks := s'.toks } := by
    have e1 := mv.gens; have e2 := mv.drawn; have e3 := mv.os
    cases s'
    cases e1; cases e2; cases e3
    rfl
  rw [whole]
  refine wpAny_pure (h s'.heap s'.toks ⟨D, l, c1, c2, c3, c4, c5, size ▸ c6, fun b o hb e => mv.heap b o ?_ (Heap.get?_push_of_some _ e)⟩)
  simpa using ⟨hb, Nat.ne_of_lt (Heap.lt_size e)⟩
/-- set(xs) of a list of texts -/
theorem call_set {q : Addr} {items : Array Value} {xs : List Str} {Q : Value → Shared → Prop} (hh : A.handled = none) (hq : s.heap.IsList q items) (hi : StrsAre items.toList xs) (hb : xs.length + 1 < scanBound)
    (h : ∀ (h' : Heap) (tk : Nat) (D : SD) (l : List Str), h'.get? s.heap.objs.size = some (sObj "set" D) → TxOk P w D l → Tx w D l → l.Nodup → (∀ k, k ∈ l ↔ k ∈ xs) → l.length ≤ xs.length →
      (∀ b o, s.heap.get? b = some o → h'.get? b = some o) → Q (.ref s.heap.objs.size) { s with heap := h', toks := tk }) : wpAny (model P w) A (call (.type "set") [.ref q]) Q E s := by
  have ⟨_, _, mro⟩ := F.called_set.mro
  have made := F.called_set.made; have sub := F.called_set.sub; have notType := F.called_set.notType; have creates := F.called_set.canCreate; have counts := F.typeCall_set_1 (.ref q)
  -- type's own call: first __new__, which lays an empty set, then __init__, which fills it
  refine wpAny_call (codeAny_of_tree (show wpAny _ _ (callAny (.type "set") _) _ _ _ from wpAny_pure ⟨Code.quiet_builtin _ (by decide +kernel), codeAny_builtin F.entry_type_call ?_⟩))
  rw [Around.under_plain (weight_type_call_type "set" [.ref q] []) rfl]
  repeat (any_goals (first | assumption | wp_step))
  refine codeAny_mono (code_set_led1 (.ref q) (E := E) (Q₁ := fun obj s₁ => obj = .ref s.heap.objs.size ∧ s₁ = { s with heap := s.heap.push (emptySet w) }) ⟨rfl, rfl⟩) ?_
  rintro (e | obj | _) s₁ hr <;> try exact hr
  obtain ⟨rfl, rfl⟩ := hr
  have new : (s.heap.push (emptySet w)).get? s.heap.objs.size = some (emptySet w) := Heap.get?_push_size _ rfl
  have ty : Shared.TypeIs { s with heap := s.heap.push (emptySet w) } (.ref s.heap.objs.size) "set" := ⟨_, new, rfl⟩
  have look := F.called_set.init.lookup; have bind := F.called_set.init.bind (.ref s.heap.objs.size)
  repeat (any_goals (first | assumption | wp_step))
  refine codeAny_mono (codeAny_call_builtin (R := wants (fun r s₂ => r = .none ∧ ∃ tk, Filled P w s.heap.objs.size xs (s.heap.push (emptySet w)) s₂.heap ∧ s₂ = { s with heap := s₂.heap, toks := tk }) E) F.called_set.init.plain F.entry_set_init (check_set_init_1 ty ?_)) ?_
  · have go : ∀ {Qr : Unit → Shared → Prop} {Er : Value → Shared → Prop}, (∀ h' tk, Filled P w s.heap.objs.size xs (s.heap.push (emptySet w)) h' → Qr () { s with heap := h', toks := tk }) →
        wpAny (model P w) A.in1.in1 (Builtin.Frozenset.updateFrom "set.__init__" s.heap.objs.size (.ref q)) Qr Er { s with heap := s.heap.push (emptySet w) } := fun k =>
      takes_texts (s := { s with heap := s.heap.push (emptySet w) }) (show A.in1.in1.handled = none from hh) new (hq.push _) hi hb k
    unfold Builtin.«set.__init__» noKeywords
    wp_walk using go
    intro h' tk full
    exact wpAny_pure ⟨rfl, tk, full, rfl⟩
  · rintro (e | r | _) s₂ hr <;> try exact hr
    obtain ⟨rfl, tk, ⟨D, l, c1, c2, c3, c4, c5, c6, c7⟩, whole⟩ := hr
    repeat (any_goals (first | assumption | wp_step))
    rw [whole]
    exact h _ tk D l c1 c2 c3 c4 c5 c6 fun b o e => c7 b o (Nat.ne_of_lt (Heap.lt_size e)) (Heap.get?_push_of_some _ e)
end
end TS
end

-- part DLT
section
namespace TS
open PySem PySem.Spec PyProof.Rows PySem.Froz L2
theorem rising_le : ∀ (r : List Str) (p : Str), risingS p r = true → ∀ k ∈ r, ¬ k.cps.toList < p.cps.toList
  | [], _, _, k, hk => by cases hk
  | x :: r, p, h, k, hk => by
    unfold risingS at h
    rw [Bool.and_eq_true] at h
    have h1 : ¬ x.cps.toList < p.cps.toList := by
      intro hl
      have h3 := h.1
      rw [ltCps_eq, decide_eq_true hl] at h3
      cases h3
    rcases List.mem_cons.mp hk with e | hk
    · subst e; exact h1
    · intro hl
      refine rising_le r x h.2 k hk ?_
      rcases Classical.em (p.cps.toList < x.cps.toList) with h2 | h2
      · exact List.lt_trans hl h2
      · have e : p.cps.toList = x.cps.toList := List.le_antisymm (List.not_lt.mp h1) (List.not_lt.mp h2)
        rw [← e]; exact hl
theorem rising_strict : ∀ (ys : List Str), sortedS ys = true → ys.Nodup → DL.SortedS ys
  | [], _, _ => List.Pairwise.nil
  | x :: r, h, nd => by
    obtain ⟨n1, n2⟩ := List.nodup_cons.mp nd
    have h' : risingS x r = true := h
    refine List.pairwise_cons.mpr ⟨fun k hk => ?_, rising_strict r ?_ n2⟩
    · have h1 := rising_le r x h' k hk
      rcases Classical.em (x.cps.toList < k.cps.toList) with h2 | h2
      · exact h2
      · exfalso
        have e : x.cps.toList = k.cps.toList := List.le_antisymm (List.not_lt.mp h1) (List.not_lt.mp h2)
        have e2 : x = k := by
          obtain ⟨a⟩ := x; obtain ⟨b⟩ := k
          simp only at e
          congr 1
          exact Array.toList_inj.mp e
        exact n1 (e2 ▸ hk)
    · cases r with
      | nil => rfl
      | cons y r => unfold risingS at h'; rw [Bool.and_eq_true] at h'; exact h'.2
theorem strs_of_entries {w : World} : ∀ {es : List (Int × Value)}, (∀ e ∈ es, ∃ k u, e = (hashStr w k, Value.str k u)) → StrsAre (es.map (·.2)) (es.map txt)
  | [], _ => .nil
  | e :: es, h => by
    obtain ⟨k, u, rfl⟩ := h e (by simp)
    exact .cons k u (strs_of_entries fun e he => h e (by simp [he]))
theorem strs_perm : ∀ {vs us : List Value}, us.Perm vs → ∀ {ks : List Str}, StrsAre vs ks → ∃ js, StrsAre us js ∧ js.Perm ks := by
  intro vs us p
  induction p with
  | nil => intro ks h; exact ⟨ks, h, List.Perm.refl _⟩
  | cons v p ih =>
    intro ks h
    cases h with
    | cons k u h =>
      obtain ⟨js, h1, h2⟩ := ih h
      exact ⟨k :: js, .cons k u h1, List.Perm.cons k h2⟩
  | swap a b l =>
    intro ks h
    cases h with
    | cons k u h =>
      cases h with
      | cons k2 u2 h => exact ⟨k2 :: k :: _, .cons k2 u2 (.cons k u h), List.Perm.swap _ _ _⟩
  | trans p1 p2 ih1 ih2 =>
    intro ks h
    obtain ⟨js, h1, h2⟩ := ih2 h
    obtain ⟨is, h3, h4⟩ := ih1 h1
    exact ⟨is, h3, h4.trans h2⟩
section
variable {P : Program} {w : World} {A : Around} {E : Value → Shared → Prop} {s : Shared}
theorem sorted_of {a : Addr} {D : SD} {l : List Str} {Q : Value → Shared → Prop} (ho : s.heap.get? a = some (sObj "set" D)) (F : TxOk P w D l) (F2 : Tx w D l) (nd : l.Nodup) (hh : A.handled = none) (h64 : l.length < 64)
    (hQ : ∀ s' p (out : Array Value) (c : Nat) (ys : List Str), (∀ b o, s.heap.get? b = some o → s'.heap.get? b = some o) → s'.gens = s.gens → s'.os = s.os → s.heap.objs.size ≤ p →
      s'.heap.get? p = some (seqObj "list" out c) → StrsAre out.toList ys → DL.SortedS ys → (∀ k, k ∈ ys ↔ k ∈ l) → ys.length = l.length → Q (.ref p) s') : wpAny (model P w) A (call (.builtin "sorted") [.ref a]) Q E s := by
  obtain ⟨es, ep, t⟩ := D
  have hsize : es.size = l.length := F.sz
  have hline : l.length < sizeLine ∧ l.length < scanBound := ⟨Nat.lt_trans h64 (by decide), Nat.lt_trans h64 (by decide)⟩
  refine Calls.call_function_entry kind_sorted plain_sorted entry_sorted (args_sorted1 _) ?_
  unfold Builtin.«sorted»
  refine wpAny_bind (m := checkCount "sorted" 1 1 _) (wpAny_pure (wpAny_bind (collect_set (A := A.in1) (es := es) (ep := ep) (t := t) hh ⟨_, ho, rfl, rfl⟩ F.fit (by rw [hsize]; exact hline.2) F2.ris F2.led fun s1 vs k1 z1 g1 o1 pm => ?_)))
  obtain ⟨ks, hks, pk⟩ := strs_perm pm (strs_of_entries F2.each)
  have pl : ks.Perm l := pk.trans F2.perm
  have hvl : vs.length = l.length := by rw [StrsAre.len_eq hks, pl.length_eq]
  refine wpAny_bind (wpAny_newList ?_ (by rw [hvl]; exact Nat.le_of_lt hline.1))
  have hL : (s1.heap.push (seqObj "list" vs.toArray 0)).get? s1.heap.objs.size = some (seqObj "list" vs.toArray 0) := Heap.get?_push_size _ rfl
  refine wpAny_bind (wpAny_holding (wpAny_call_entry slot_list_sort ⟨_, hL, rfl⟩ entry_list_sort
    (list_sort_treeK strKind_oneLt (s := { s1 with heap := s1.heap.push (seqObj "list" vs.toArray 0) }) hL hks.keysOf (fun _ _ _ e => keyKind_strs (by rw [← e]; exact hks)) (by rw [hvl]; exact h64) fun st' hp hs => ⟨_, rfl, ?_⟩) (args_list_sort _)))
  obtain ⟨ys, y1, y2, y3⟩ := sorted_out_str hks hp hs
  obtain ⟨c, hc⟩ := sortedHeap_at (vs := vs) (out := (arrOf st').map (·.2)) hL
  have py : ys.Perm l := y2.trans pl
  refine wpAny_pure ⟨_, rfl, hQ _ s1.heap.objs.size _ c ys (fun b u e => ?_) g1 o1 z1 hc y1 (rising_strict ys y3 (py.nodup_iff.mpr nd)) (fun k => py.mem_iff) py.length_eq⟩
  have q := k1 b u e
  have lt := Heap.lt_size q
  show (sortedHeap (s1.heap.push (seqObj "list" vs.toArray 0)) s1.heap.objs.size vs _).get? b = some u
  rw [sortedHeap_old (Nat.ne_of_lt lt) (by rw [size_push']; exact Nat.lt_succ_of_lt lt)]
  exact Heap.get?_push_of_some _ q
end
/-- sorted(set(xs)), xs a list of texts -/
def tSS (K : PySem.W.Frag) (ta : TE) : TE := fun σ H Q => ta σ H fun x H1 => ∃ (q : Addr) (xs : List Str), x = .ref q ∧ SqL K H1 q (xs.map V.str) ∧ xs.length < 64 ∧
  ∀ (ys : List Str) (p : Addr), DL.SortedS ys → (∀ k, k ∈ ys ↔ k ∈ xs) → ys.length ≤ xs.length → H1 p = none → Q (.ref p) (upd H1 p (.lst (ys.map V.str)))
section
variable {X : Cx} {a : Expr} {ta : TE} {p p2 q pos : Pos}
theorem laid_at {pins : List (Addr × Obj)} {σ : L2.St} {H : Hp} {s s' : Shared} {b : Addr} {out : Array Value} {c : Nat} {ys : List Str} (I : Inv X pins σ H s) (k : ∀ b o, s.heap.get? b = some o → s'.heap.get? b = some o) (g : s'.gens = s.gens) (o : s'.os = s.os)
    (hp : s.heap.objs.size ≤ b) (hgt : s'.heap.get? b = some (seqObj "list" out c)) (hst : StrsAre out.toList ys) (hz : ys.length ≤ 64) : H b = none ∧ Inv X pins σ (upd H b (.lst (ys.map V.str))) s' := by
  have hlen : (ys.map V.str).length ≤ sizeLine := by rw [List.length_map]; exact Nat.le_trans hz (by decide)
  have hn : H b = none := I.hok.fresh hp
  obtain ⟨hp', g', d', t', o'⟩ := s'
  obtain ⟨hp0, g0, d0, t0, o0⟩ := s
  cases o; cases g
  exact ⟨hn, I.call (ch := []) (Un.laid k hp hn) (I.hok.laid k hp ⟨hlen, out.toList, c, vals_of_strs hst, hgt⟩) I.bare (fun _ z => nomatch z)⟩
theorem pe_sortedSet (hc : X.calm = true) (hg : Gl X "sorted") (hm : X.mg "sorted" = none) (hg2 : Gl X "set") (hm2 : X.mg "set" = none) (ha : PE X a ta) (na : starEach [a] X.env = (false, eval a X.env) :: starEach [] X.env := by rfl) :
    PE X (.Call (.Name "sorted" p) [.Call (.Name "set" p2) [a] [] q] [] pos) (tSS X.K ta) := by
  refine ⟨fun pins s σ H Q I h => ?_⟩
  refine Call_ (ld_blt I hg hm boot_sorted ?_)
  refine callWith_builtin1 (args_cons ?_ rfl) rfl rfl
  refine Call_ (ld_blt I hg2 hm2 boot_set ?_)
  refine callWith_type1 (args_cons (thn (ha.run pins s σ H _ I h) fun v s1 ⟨x, H1, I1, r1, q1⟩ => args_nil ?_) na) na rfl
  obtain ⟨b, xs, rfl, hq, h1, q1⟩ := q1
  cases r1
  obtain ⟨its, r, pl, hz⟩ := I1.list hq
  have hS : StrsAre its xs := strsAre_of r
  refine call_set (P := X.prog) (I1.ok.hd hc) pl.isList (by simpa using hS) (Nat.lt_trans (Nat.succ_lt_succ h1) (by decide)) fun h' tk D l c1 c2 c3 c4 c5 c6 c7 => ?_
  refine args_nil ?_
  have I2 : Inv X pins σ H1 { s1 with heap := h', toks := tk } := I1.kept c7
  refine sorted_of (s := { s1 with heap := h', toks := tk }) c1 c2 c3 c4 (I2.ok.hd hc) (by omega) fun s' p out c ys k g o hp hgt hst hs hm hl => ?_
  obtain ⟨hn, J⟩ := laid_at I2 k g o hp hgt hst (by omega)
  exact ⟨.ref p, _, J, rfl, q1 ys p hs (fun k => (hm k).trans (c5 k)) (by omega) hn⟩
end
end TS
end

-- part DLR
section
/-! t[::-1] of a tuple. -/
namespace RV
open PySem PySem.Spec PyProof.Rows L2 HT
theorem adj_back (n : Nat) : Builtin.Slice.sliceAdjust none none (-1) (n : Int) = ((n : Int) - 1, -1) := by
  unfold Builtin.Slice.sliceAdjust; simp
theorem places_back (n : Nat) : Builtin.Slice.slicePlaces ((n : Int) - 1) (-1) (-1) = n := by
  unfold Builtin.Slice.slicePlaces
  rw [if_neg (by omega), show (-(-1 : Int)) = 1 from rfl, Int.ediv_one]
  split <;> omega
theorem pick_back (xs : Array Value) : ((List.range xs.size).filterMap fun (m : Nat) => xs[((xs.size : Int) - 1 + (m : Int) * (-1)).toNat]?) = xs.toList.reverse := by
  have h1 : ∀ l : List Nat, (∀ m ∈ l, m < xs.size) → (l.filterMap fun (m : Nat) => xs[((xs.size : Int) - 1 + (m : Int) * (-1)).toNat]?) = l.map fun m => xs.toList.reverse.getD m .none := by
    intro l
    induction l with
    | nil => intro _; rfl
    | cons m l ih =>
      intro h
      have hm := h m (by simp)
      have e : ((xs.size : Int) - 1 + (m : Int) * (-1)).toNat = xs.size - 1 - m := by omega
      have e2 : xs[xs.size - 1 - m]? = some (xs[xs.size - 1 - m]'(by omega)) := Array.getElem?_eq_getElem (by omega)
      rw [List.filterMap_cons, e, e2, List.map_cons, ih fun j hj => h j (by simp [hj])]
      congr 1
      rw [List.getD_eq_getElem?_getD, List.getElem?_reverse (by rw [Array.length_toList]; exact hm), Array.length_toList, Array.getElem?_toList, e2]
      rfl
  rw [h1 _ fun m hm => List.mem_range.mp hm]
  apply List.ext_getElem
  · simp
  · intro i a b
    rw [List.getElem_map, List.getElem_range, List.getD_eq_getElem?_getD, List.getElem?_eq_getElem b]
    rfl
section
variable {prog : Program} {w : World} {A : Around} {E : Value → Shared → Prop} {s : Shared}
theorem applied_back {sl : Addr} {vl vu vs : Value} {n : Nat} {Q : Int × Int × Nat → Shared → Prop} (hs : s.heap.IsSliceOf sl vl vu vs) (pl : IsPart vl none) (pu : IsPart vu none) (ps : IsPart vs (some (-1)))
    (h : Q ((n : Int) - 1, -1, n) s) : wpAny (model prog w) A (Builtin.Slice.sliceApplied (.ref sl) (pure (n : Int))) Q E s := by
  obtain ⟨ob, hob, hcb, hdb⟩ := id hs
  unfold Builtin.Slice.sliceApplied Builtin.Slice.sliceFields
  refine wpAny_bind (wpAny_bind (wpAny_field hob hdb (x := vl) rfl (wpAny_bind (wpAny_field hob hdb (x := vu) rfl (wpAny_bind (wpAny_field hob hdb (x := vs) rfl (wpAny_pure ?_)))))))
  refine wpAny_bind (HT.slicePart_ ps ?_)
  show wpAny _ _ (if ((-1 : Int) == 0) = true then _ else _) _ _ s
  rw [if_neg (by decide)]
  refine wpAny_bind (HT.slicePart_ pl (wpAny_bind (HT.slicePart_ pu (wpAny_bind (wpAny_pure ?_)))))
  show wpAny _ _ (match Builtin.Slice.sliceAdjust none none (-1) (n : Int) with | (lo, hi) => pure (lo, (-1 : Int), Builtin.Slice.slicePlaces lo hi (-1))) _ _ s
  rw [adj_back]
  show wpAny _ _ (pure ((n : Int) - 1, (-1 : Int), Builtin.Slice.slicePlaces ((n : Int) - 1) (-1) (-1))) _ _ s
  rw [places_back]
  exact wpAny_pure h
theorem getItem_back {t sl : Addr} {items : Array Value} {vl vu vs : Value} {Q : Value → Shared → Prop} (ht : IsTup s.heap t items) (hs : s.heap.IsSliceOf sl vl vu vs) (pl : IsPart vl none) (pu : IsPart vu none) (ps : IsPart vs (some (-1)))
    (h : Q (.ref s.heap.objs.size) { s with heap := s.heap.push { cls := .type "tuple", data := .seq items.toList.reverse.toArray } }) (hsz : items.size ≤ sizeLine) : wpAny (model prog w) A (getItem (.ref t) (.ref sl)) Q E s := by
  have hok : sizeOk (.seq items.toList.reverse.toArray) := by
    show items.toList.reverse.toArray.size ≤ sizeLine
    rw [List.size_toArray, List.length_reverse, Array.length_toList]; exact hsz
  obtain ⟨ob, hob, hcb, hdb⟩ := id hs
  have hTs : s.TypeIs (.ref sl) "slice" := ⟨ob, hob, hcb⟩
  unfold getItem
  try with_reducible refine wpAny_holding ?_
  first | refine wpAny_bind (wpAny_pure ?_) | skip
  refine wpAny_bind (wpAny_sequenceKey ht.typeIs (by decide) (wpAny_bind (wpAny_callSpecial?_slot (name := Str.ofString "__getitem__") ht.typeIs PyProof.Rows.slot_tuple_getitem
    (wpAny_call_entry PyProof.Rows.slot_tuple_getitem ht.typeIs entry_tuple_getitem ?_ (args_tuple_getitem _ _)))))
  show wpAny _ _ (Builtin.Tuple.tupleItemsOf (.ref t) >>= _) _ _ s
  refine wpAny_bind (tupleItemsOf_ ht (wpAny_bind (wpAny_typeOf hTs ?_)))
  rw [if_pos (by decide)]
  refine wpAny_bind (applied_back hs pl pu ps ?_)
  have hno : ¬ ((((items.size : Int) - 1) == 0 && (-1 : Int) == 1 && items.size == items.size) = true) := by
    rw [show ((-1 : Int) == 1) = false from by decide, Bool.and_false, Bool.false_and]
    exact Bool.false_ne_true
  show wpAny _ _ (if (((items.size : Int) - 1) == 0 && (-1 : Int) == 1 && items.size == items.size) = true then _ else _) _ _ s
  rw [if_neg hno, pick_back]
  first
    | exact wpAny_bind (m := Builtin.Tuple.tupleExact _) (wpAny_newObj_type (wpAny_pure ⟨_, rfl, wpAny_pure h⟩) hok)
    | exact wpAny_bind (m := Builtin.Tuple.tupleExact _) (wpAny_newObj_type (wpAny_bind (wpAny_pure (wpAny_pure ⟨_, rfl, wpAny_pure h⟩))) hok)
    | exact wpAny_bind (wpAny_bind (m := Builtin.Tuple.tupleExact _) (wpAny_newObj_type (wpAny_pure (wpAny_pure ⟨_, rfl, wpAny_pure h⟩)) hok))
    | exact wpAny_bind (wpAny_bind (m := Builtin.Tuple.tupleExact _) (wpAny_newObj_type (wpAny_pure ⟨_, rfl, wpAny_pure h⟩) hok))
end
def tRevT (K : PySem.W.Frag) (te : TE) : TE := fun σ H Q => te σ H fun x H1 => ∃ a xs, x = .ref a ∧ SqT K H1 a xs ∧ ∀ p, H1 p = none → Q (.ref p) (upd H1 p (.tup xs.reverse))
section
variable {X : Cx}
theorem pe_revT {e : Expr} {te : TE} {k : Nat} {p1 p2 p3 pos : Pos} (he : PE X e te) : PE X (.Subscript e (.Slice none none (some (.UnaryOp .USub (.Constant (.int 1) k p1) p2)) p3) pos) (tRevT X.K te) := by
  refine ⟨fun pins s σ H Q I h => Subscript_ (thn (he.run pins s σ H _ I h) fun v s1 ⟨x, H1, I1, r1, q1⟩ => ?_)⟩
  obtain ⟨a, xs, ex, hx, q⟩ := q1
  subst ex
  cases r1
  have hst : PO X (some (.UnaryOp .USub (.Constant (.int 1) k p1) p2)) (tPart (tUn (rU fun i => .int (-i)) (tC (.int 1)))) := po_some (pe_un un_neg pe_int)
  refine wpAny_Slice (thn (po_none.run pins s1 σ H1 (fun o H2 => o = none ∧ H2 = H1) I1 ⟨rfl, rfl⟩) fun vl s2 ⟨o1, H2, I2, pl, e1, e2⟩ => ?_)
  subst e1 e2
  refine thn (po_none.run pins s2 σ H2 (fun o H3 => o = none ∧ H3 = H2) I2 ⟨rfl, rfl⟩) fun vu s3 ⟨o2, H3, I3, pu, e3, e4⟩ => ?_
  subst e3 e4
  refine thn (hst.run pins s3 σ H3 (fun o H4 => o = some (-1) ∧ H4 = H3) I3 ⟨1, rfl, -1, rfl, rfl, rfl⟩) fun vs s4 ⟨o3, H4, I4, ps, e5, e6⟩ => ?_
  subst e5 e6
  have I5 : Inv X pins σ H4 { s4 with heap := s4.heap.push { cls := .type "slice", data := .fields #[vl, vu, vs] } } := I4.kept (t' := s4.toks) fun b ob q => Heap.get?_push_of_some _ q
  obtain ⟨its, r, ht, hz⟩ := I5.tuple hx
  have hlen := r.length
  show wpAny (model X.prog X.w) X.A (subscriptTail e (.Slice none none (some (.UnaryOp .USub (.Constant (.int 1) k p1) p2)) p3) (.ref a) (.ref s4.heap.objs.size)) (EP X pins σ Q) X.xe _
  have hT : Shared.TypeIs { s4 with heap := s4.heap.push { cls := .type "slice", data := .fields #[vl, vu, vs] } } (.ref a) "tuple" := by
    exact ht.typeIs
  refine tail_any (ops := [.ref a, .ref s4.heap.objs.size]) hT (PyProof.Rows.slot_tuple_getitem.lookup) ?_ (by with_unfolding_all rfl)
  refine getItem_back (items := its.toArray) ht (Heap.IsSliceOf.new _ vl vu vs) pl pu ps ?_ (by rw [List.size_toArray]; omega)
  refine ⟨.ref _, _, I5.laid (t' := s4.toks) (o := .tup xs.reverse) (fun b ob q => Heap.get?_push_of_some _ q) (Nat.le_refl _) ?_, rfl, q _ (I5.hok.fresh (Nat.le_refl _))⟩
  exact ⟨by rw [List.length_reverse]; exact hz, _, r.reverse, IsTup.new _ _⟩
end
end RV
end

-- part DL8
section
namespace DL
open PySem L2
theorem dss_never {X : Cx} {sts : List Stmt} : DSs X sts sNever := weakSs pss_never fun D' σ H ⟨ρ, μ, E, s, g, c⟩ => g
def strsD : List D → Option (List Str)
  | [] => some []
  | .str i :: ds => (strsD ds).map (i :: ·)
  | _ :: _ => none
theorem strs_map : ∀ l : List Str, strsD (l.map D.str) = some l
  | [] => rfl
  | a :: l => by rw [List.map_cons, strsD, strs_map l]; rfl
/-- sorted(set(xs)), xs a list of texts -/
def dSortS (F : TF D) : TF D := fun ρ μ Q => F ρ μ fun x μ1 => ∃ ds ks, x = .lst ds ∧ strsD ds = some ks ∧ ks.length < 64 ∧ ∀ ys : List Str, SortedS ys → (∀ k, k ∈ ys ↔ k ∈ ks) → Q (.lst (ys.map .str)) μ1
theorem strs_inv {K : PySem.W.Frag} {G : Hp} : ∀ {ds : List D} {xs : List V} {ks : List Str}, RpAll K G xs ds → strsD ds = some ks → xs = ks.map V.str ∧ ds = ks.map D.str ∧ ∀ k ∈ ks, SOk k
  | [], _, ks, .nil, h => by cases h; exact ⟨rfl, rfl, by simp⟩
  | .str k :: ds, _, ks, .cons (.str _ ok) r, h => by
    unfold strsD at h
    cases q : strsD ds with
    | none => rw [q] at h; cases h
    | some js =>
      rw [q] at h; cases h
      obtain ⟨h1, h2, h3⟩ := strs_inv r q
      refine ⟨by rw [h1]; rfl, by rw [h2]; rfl, fun j hj => ?_⟩
      rcases List.mem_cons.mp hj with e | hj
      · subst e; exact ok
      · exact h3 j hj
theorem rp_strs {K : PySem.W.Frag} {G : Hp} : ∀ {ks : List Str}, (∀ k ∈ ks, SOk k) → RpAll K G (ks.map V.str) (ks.map D.str)
  | [], _ => .nil
  | k :: ks, h => .cons (.str k (h k (by simp))) (rp_strs fun j hj => h j (by simp [hj]))
theorem de_sortedSet {X : Cx} {e : Expr} {F : TF D} {p1 p2 c1 c2 : Pos} (h1 : X.mg "sorted" = none) (h2 : X.mg "set" = none) (he : DE X e F) (hg1 : Gl X "sorted" := by rfl) (hg2 : Gl X "set" := by rfl) (hc : X.calm = true := by rfl)
    (na : starEach [e] X.env = (false, eval e X.env) :: starEach [] X.env := by rfl) :
    DE X (.Call (.Name "sorted" p1) [.Call (.Name "set" p2) [e] [] c2] [] c1) (dSortS F) := by
  refine weakE (TS.pe_sortedSet hc hg1 h1 hg2 h2 he na) fun σ H Q ⟨ρ, μ, Qd, s, f, kk⟩ => Lift.go (F := F) s f fun x μ1 v H1 ⟨ds, ks, ex, hks, hl, g⟩ s1 n1 r1 => ?_
  subst ex
  cases r1 with
  | lst ha ra za =>
    obtain ⟨e1, e2, e3⟩ := strs_inv ra hks
    subst e1; subst e2
    refine ⟨_, ks, rfl, SqL.of (hide_in ha), hl, fun ys p hs hm hlen hp => ?_⟩
    have n2 : Nx X.K H1 μ1 (upd H1 p (.lst (ys.map V.str))) μ1 := Nx.new s1.wd hp
    exact kk _ μ1 _ _ (g ys hs hm) (n1.trans n2) (.lst (new_at (s1.wd.free hp)) (rp_strs fun k hk => e3 k ((hm k).mp hk)) (by rw [List.length_map]; exact Nat.le_trans (by omega : ys.length ≤ 64) (by decide)))
/-- t[::-1], t a tuple -/
def dRev (F : TF D) : TF D := fun ρ μ Q => F ρ μ fun x μ1 => ∃ ds, x = .tup ds ∧ Q (.tup ds.reverse) μ1
theorem RpAll.rev {K : PySem.W.Frag} {G : Hp} : ∀ {vs : List V} {ds : List D}, RpAll K G vs ds → RpAll K G vs.reverse ds.reverse
  | _, _, .nil => .nil
  | _, _, .cons r t => by rw [List.reverse_cons, List.reverse_cons]; exact (RpAll.rev t).append (.cons r .nil)
theorem de_slStep {X : Cx} {e : Expr} {F : TF D} {k : Nat} {p1 p2 p3 pos : Pos} (he : DE X e F) : DE X (.Subscript e (.Slice none none (some (.UnaryOp .USub (.Constant (.int 1) k p1) p2)) p3) pos) (dRev F) := by
  refine weakE (RV.pe_revT he) fun σ H Q ⟨ρ, μ, Qd, s, f, kk⟩ => Lift.go (F := F) s f fun x μ1 v H1 ⟨ds, ex, g⟩ s1 n1 r1 => ?_
  subst ex
  cases r1 with
  | @tup a xs ds ha ra za =>
    refine ⟨a, xs, rfl, SqT.of (hide_in ha), fun p hp => ?_⟩
    have n2 : Nx X.K H1 μ1 (upd H1 p (.tup xs.reverse)) μ1 := Nx.new s1.wd hp
    exact kk _ μ1 _ _ g (n1.trans n2) (.tup (new_at (s1.wd.free hp)) (ra.rev.mono n2.ext) (by rw [List.length_reverse]; exact za))


/-- a comprehension with two fors, by its turns -/
theorem lc2_pure {F : TF (List D)} {g : TGD} {A : TF Bool} {F2 : TF (List D)} {g2 : TGD} {A2 : TF Bool} {Fe : TF D} {vs vs1 : List Nat} {ρ : Env} {μ : Mu} {Q : D → Mu → Prop} {ds : List D} (es : D → List D) (ρ2 : D → Env) (h : D → D → Option D)
    (hF : ∀ R : List D → Mu → Prop, R ds μ → F ρ μ R) (hn : (ds.flatMap es).length < sizeLine)
    (h1 : ∀ d ∈ ds, ∀ p acc, μ p = none → ∀ (X : Env → List D → Mu → Prop) (Y : Mu → Prop), X (ρ2 d) (es d) (μ.put p (.lst acc)) → g d (wipeE ρ vs) fun ρ' => A ρ' (μ.put p (.lst acc)) fun b μ2 => if b = true then F2 ρ' μ2 (X ρ') else Y μ2)
    (h2 : ∀ d ∈ ds, ∀ e ∈ es d, TurnS g2 A2 Fe (wipeE (ρ2 d) vs1) μ (fun e r => r = h d e) e)
    (hQ : Q (.lst (ds.flatMap fun d => (es d).filterMap (h d))) μ) : dLc2 F g A F2 g2 A2 Fe vs vs1 ρ μ Q := by
  refine hF _ fun p hp => ⟨fun i μ' => μ' = μ.put p (.lst ((ds.take i).flatMap fun d => (es d).filterMap (h d))), rfl, fun i d μ' hd e => ?_, fun μ' e => ?_⟩
  · subst e
    have hm := List.mem_of_getElem? hd
    have et : ds.take (i + 1) = ds.take i ++ [d] := by rw [List.take_add_one, hd]; rfl
    refine h1 d hm p _ hp (fun ρ' es' μ3 => ∃ J : Nat → Mu → Prop, J 0 μ3 ∧ (∀ j e μ4, es'[j]? = some e → J j μ4 → lcTurn g2 A2 Fe (wipeE ρ' vs1) e μ4 (lcStep p J j)) ∧ ∀ μ4, J es'.length μ4 → μ4 = μ.put p (.lst ((ds.take (i + 1)).flatMap fun d => (es d).filterMap (h d)))) _ ?_
    refine ⟨fun j μ4 => μ4 = μ.put p (.lst (((ds.take i).flatMap fun d => (es d).filterMap (h d)) ++ ((es d).take j).filterMap (h d))), by simp, fun j e μ4 he e4 => ?_, fun μ4 e4 => ?_⟩
    · subst e4
      have ej : (es d).take (j + 1) = (es d).take j ++ [e] := by rw [List.take_add_one, he]; rfl
      refine h2 d hm e (List.mem_of_getElem? he) p _ hp _ fun r hr => ?_
      subst hr
      cases q : h d e with
      | none =>
        show _ = _
        rw [ej, List.filterMap_append]
        simp [q]
      | some y =>
        refine ⟨_, Mu.put_same, ?_, ?_⟩
        · have l1 : ((ds.take i).flatMap fun d => (es d).filterMap (h d)).length ≤ ((ds.take i).flatMap es).length := by
            rw [List.length_flatMap, List.length_flatMap]
            exact go _
          have l2 : (((es d).take j).filterMap (h d)).length ≤ (es d).length := Nat.le_trans (List.length_filterMap_le _ _) (by rw [List.length_take]; omega)
          have l3 : ((ds.take i).flatMap es).length + (es d).length ≤ (ds.flatMap es).length := by
            have : ((ds.take (i + 1)).flatMap es).length ≤ (ds.flatMap es).length := by
              conv => rhs; rw [← List.take_append_drop (i + 1) ds, List.flatMap_append, List.length_append]
              omega
            rw [et, List.flatMap_append, List.length_append] at this
            simpa using this
          rw [List.length_append]
          omega
        · show _ = _
          rw [Mu.put_put, ej, List.filterMap_append]
          simp [q]
    · subst e4
      rw [List.take_length, et, List.flatMap_append]
      simp
  · subst e
    rw [List.take_length]
    refine ⟨_, Mu.put_same, ?_⟩
    rw [Mu.put_del hp]
    exact hQ
where
  go : ∀ l : List D, (l.map fun d => ((es d).filterMap (h d)).length).sum ≤ (l.map fun d => (es d).length).sum
    | [] => Nat.le_refl _
    | d :: l => by
      simp only [List.map_cons, List.sum_cons]
      have := List.length_filterMap_le (h d) (es d)
      have := go l
      omega
theorem q_ss {a b : Str} : eqvD (.str a) (.str b) = (a == b) := by simp [eqvD]
theorem q_ii {a b : Int} : eqvD (.int a) (.int b) = (a == b) := by simp [eqvD]
theorem q_bb {a b : Bool} : eqvD (.bl a) (.bl b) = (a == b) := by simp [eqvD]
theorem q_nn : eqvD .non .non = true := by simp [eqvD]
theorem q_tt {a b : List D} : eqvD (.tup a) (.tup b) = eqvDs a b := by simp [eqvD]
theorem q_ll {a b : List D} : eqvD (.lst a) (.lst b) = eqvDs a b := by simp [eqvD]
theorem q_si {a : Str} {b : Int} : eqvD (.str a) (.int b) = false := by simp [eqvD]
theorem q_sn {a : Str} : eqvD (.str a) .non = false := by simp [eqvD]
theorem q_st {a : Str} {b : List D} : eqvD (.str a) (.tup b) = false := by simp [eqvD]
theorem q_sl {a : Str} {b : List D} : eqvD (.str a) (.lst b) = false := by simp [eqvD]
theorem q_is {a : Int} {b : Str} : eqvD (.int a) (.str b) = false := by simp [eqvD]
theorem q_in {a : Int} : eqvD (.int a) .non = false := by simp [eqvD]
theorem q_it {a : Int} {b : List D} : eqvD (.int a) (.tup b) = false := by simp [eqvD]
theorem q_il {a : Int} {b : List D} : eqvD (.int a) (.lst b) = false := by simp [eqvD]
theorem q_ns {b : Str} : eqvD .non (.str b) = false := by simp [eqvD]
theorem q_ni {b : Int} : eqvD .non (.int b) = false := by simp [eqvD]
theorem q_nt {b : List D} : eqvD .non (.tup b) = false := by simp [eqvD]
theorem q_nl {b : List D} : eqvD .non (.lst b) = false := by simp [eqvD]
theorem q_ts {a : List D} {b : Str} : eqvD (.tup a) (.str b) = false := by simp [eqvD]
theorem q_ti {a : List D} {b : Int} : eqvD (.tup a) (.int b) = false := by simp [eqvD]
theorem q_tn {a : List D} : eqvD (.tup a) .non = false := by simp [eqvD]
theorem q_tl {a : List D} {b : List D} : eqvD (.tup a) (.lst b) = false := by simp [eqvD]
theorem q_ls {a : List D} {b : Str} : eqvD (.lst a) (.str b) = false := by simp [eqvD]
theorem q_li {a : List D} {b : Int} : eqvD (.lst a) (.int b) = false := by simp [eqvD]
theorem q_ln {a : List D} : eqvD (.lst a) .non = false := by simp [eqvD]
theorem q_lt {a : List D} {b : List D} : eqvD (.lst a) (.tup b) = false := by simp [eqvD]
theorem qs_nil : eqvDs [] [] = true := by simp [eqvDs]
theorem qs_cons {x y : D} {xs ys : List D} : eqvDs (x :: xs) (y :: ys) = (eqvD x y && eqvDs xs ys) := by simp [eqvDs]
theorem qs_nc {y : D} {ys : List D} : eqvDs [] (y :: ys) = false := by simp [eqvDs]
theorem qs_cn {y : D} {ys : List D} : eqvDs (y :: ys) [] = false := by simp [eqvDs]
theorem p_t16 {ds : List D} : plain 16 (.tup ds) = plains 15 ds := by simp [plain]
theorem p_l16 {ds : List D} : plain 16 (.lst ds) = plains 15 ds := by simp [plain]
theorem p_t15 {ds : List D} : plain 15 (.tup ds) = plains 14 ds := by simp [plain]
theorem p_l15 {ds : List D} : plain 15 (.lst ds) = plains 14 ds := by simp [plain]
theorem p_t14 {ds : List D} : plain 14 (.tup ds) = plains 13 ds := by simp [plain]
theorem p_l14 {ds : List D} : plain 14 (.lst ds) = plains 13 ds := by simp [plain]
theorem p_t13 {ds : List D} : plain 13 (.tup ds) = plains 12 ds := by simp [plain]
theorem p_l13 {ds : List D} : plain 13 (.lst ds) = plains 12 ds := by simp [plain]
theorem p_t12 {ds : List D} : plain 12 (.tup ds) = plains 11 ds := by simp [plain]
theorem p_l12 {ds : List D} : plain 12 (.lst ds) = plains 11 ds := by simp [plain]
theorem p_s {n : Nat} {a : Str} : plain n (.str a) = true := by cases n <;> simp [plain]
theorem p_i {n : Nat} {a : Int} : plain n (.int a) = true := by cases n <;> simp [plain]
theorem p_b {n : Nat} {a : Bool} : plain n (.bl a) = true := by cases n <;> simp [plain]
theorem p_n {n : Nat} : plain n .non = true := by cases n <;> simp [plain]
theorem ps_nil {n : Nat} : plains n [] = true := by simp [plains]
theorem ps_cons {n : Nat} {d : D} {ds : List D} : plains n (d :: ds) = (plain n d && plains n ds) := by simp [plains]
theorem t_b {b : Bool} : truD (.bl b) = some b := rfl
theorem t_i {i : Int} : truD (.int i) = some (i != 0) := rfl
theorem t_l {ds : List D} : truD (.lst ds) = some (!ds.isEmpty) := rfl
theorem t_t {ds : List D} : truD (.tup ds) = some (!ds.isEmpty) := rfl
theorem t_n : truD .non = some false := rfl
theorem n_n : isN .non = true := rfl
theorem n_i {i : Int} : isN (.int i) = false := rfl
theorem n_s {i : Str} : isN (.str i) = false := rfl
theorem n_t {i : List D} : isN (.tup i) = false := rfl
theorem n_l {i : List D} : isN (.lst i) = false := rfl
theorem n_b {i : Bool} : isN (.bl i) = false := rfl
theorem f_s {s : Str} : flatD (.str s) = true := rfl
theorem f_i {s : Int} : flatD (.int s) = true := rfl
/-! ### the words of news differ -/
theorem w_wrote_many : ((Str.ofString "wrote" : Str) = Str.ofString "many") = False := eq_false (by decide +kernel)
theorem w_wrote_many_b : ((Str.ofString "wrote" : Str) == Str.ofString "many") = false := by decide +kernel
theorem w_wrote_among : ((Str.ofString "wrote" : Str) = Str.ofString "among") = False := eq_false (by decide +kernel)
theorem w_wrote_among_b : ((Str.ofString "wrote" : Str) == Str.ofString "among") = false := by decide +kernel
theorem w_wrote_did : ((Str.ofString "wrote" : Str) = Str.ofString "did") = False := eq_false (by decide +kernel)
theorem w_wrote_did_b : ((Str.ofString "wrote" : Str) == Str.ofString "did") = false := by decide +kernel
theorem w_wrote_times : ((Str.ofString "wrote" : Str) = Str.ofString "times") = False := eq_false (by decide +kernel)
theorem w_wrote_times_b : ((Str.ofString "wrote" : Str) == Str.ofString "times") = false := by decide +kernel
theorem w_wrote_value : ((Str.ofString "wrote" : Str) = Str.ofString "value") = False := eq_false (by decide +kernel)
theorem w_wrote_value_b : ((Str.ofString "wrote" : Str) == Str.ofString "value") = false := by decide +kernel
theorem w_wrote_head : ((Str.ofString "wrote" : Str) = Str.ofString "head") = False := eq_false (by decide +kernel)
theorem w_wrote_head_b : ((Str.ofString "wrote" : Str) == Str.ofString "head") = false := by decide +kernel
theorem w_many_wrote : ((Str.ofString "many" : Str) = Str.ofString "wrote") = False := eq_false (by decide +kernel)
theorem w_many_wrote_b : ((Str.ofString "many" : Str) == Str.ofString "wrote") = false := by decide +kernel
theorem w_many_among : ((Str.ofString "many" : Str) = Str.ofString "among") = False := eq_false (by decide +kernel)
theorem w_many_among_b : ((Str.ofString "many" : Str) == Str.ofString "among") = false := by decide +kernel
theorem w_many_did : ((Str.ofString "many" : Str) = Str.ofString "did") = False := eq_false (by decide +kernel)
theorem w_many_did_b : ((Str.ofString "many" : Str) == Str.ofString "did") = false := by decide +kernel
theorem w_many_times : ((Str.ofString "many" : Str) = Str.ofString "times") = False := eq_false (by decide +kernel)
theorem w_many_times_b : ((Str.ofString "many" : Str) == Str.ofString "times") = false := by decide +kernel
theorem w_many_value : ((Str.ofString "many" : Str) = Str.ofString "value") = False := eq_false (by decide +kernel)
theorem w_many_value_b : ((Str.ofString "many" : Str) == Str.ofString "value") = false := by decide +kernel
theorem w_many_head : ((Str.ofString "many" : Str) = Str.ofString "head") = False := eq_false (by decide +kernel)
theorem w_many_head_b : ((Str.ofString "many" : Str) == Str.ofString "head") = false := by decide +kernel
theorem w_among_wrote : ((Str.ofString "among" : Str) = Str.ofString "wrote") = False := eq_false (by decide +kernel)
theorem w_among_wrote_b : ((Str.ofString "among" : Str) == Str.ofString "wrote") = false := by decide +kernel
theorem w_among_many : ((Str.ofString "among" : Str) = Str.ofString "many") = False := eq_false (by decide +kernel)
theorem w_among_many_b : ((Str.ofString "among" : Str) == Str.ofString "many") = false := by decide +kernel
theorem w_among_did : ((Str.ofString "among" : Str) = Str.ofString "did") = False := eq_false (by decide +kernel)
theorem w_among_did_b : ((Str.ofString "among" : Str) == Str.ofString "did") = false := by decide +kernel
theorem w_among_times : ((Str.ofString "among" : Str) = Str.ofString "times") = False := eq_false (by decide +kernel)
theorem w_among_times_b : ((Str.ofString "among" : Str) == Str.ofString "times") = false := by decide +kernel
theorem w_among_value : ((Str.ofString "among" : Str) = Str.ofString "value") = False := eq_false (by decide +kernel)
theorem w_among_value_b : ((Str.ofString "among" : Str) == Str.ofString "value") = false := by decide +kernel
theorem w_among_head : ((Str.ofString "among" : Str) = Str.ofString "head") = False := eq_false (by decide +kernel)
theorem w_among_head_b : ((Str.ofString "among" : Str) == Str.ofString "head") = false := by decide +kernel
theorem w_did_wrote : ((Str.ofString "did" : Str) = Str.ofString "wrote") = False := eq_false (by decide +kernel)
theorem w_did_wrote_b : ((Str.ofString "did" : Str) == Str.ofString "wrote") = false := by decide +kernel
theorem w_did_many : ((Str.ofString "did" : Str) = Str.ofString "many") = False := eq_false (by decide +kernel)
theorem w_did_many_b : ((Str.ofString "did" : Str) == Str.ofString "many") = false := by decide +kernel
theorem w_did_among : ((Str.ofString "did" : Str) = Str.ofString "among") = False := eq_false (by decide +kernel)
theorem w_did_among_b : ((Str.ofString "did" : Str) == Str.ofString "among") = false := by decide +kernel
theorem w_did_times : ((Str.ofString "did" : Str) = Str.ofString "times") = False := eq_false (by decide +kernel)
theorem w_did_times_b : ((Str.ofString "did" : Str) == Str.ofString "times") = false := by decide +kernel
theorem w_did_value : ((Str.ofString "did" : Str) = Str.ofString "value") = False := eq_false (by decide +kernel)
theorem w_did_value_b : ((Str.ofString "did" : Str) == Str.ofString "value") = false := by decide +kernel
theorem w_did_head : ((Str.ofString "did" : Str) = Str.ofString "head") = False := eq_false (by decide +kernel)
theorem w_did_head_b : ((Str.ofString "did" : Str) == Str.ofString "head") = false := by decide +kernel
theorem w_times_wrote : ((Str.ofString "times" : Str) = Str.ofString "wrote") = False := eq_false (by decide +kernel)
theorem w_times_wrote_b : ((Str.ofString "times" : Str) == Str.ofString "wrote") = false := by decide +kernel
theorem w_times_many : ((Str.ofString "times" : Str) = Str.ofString "many") = False := eq_false (by decide +kernel)
theorem w_times_many_b : ((Str.ofString "times" : Str) == Str.ofString "many") = false := by decide +kernel
theorem w_times_among : ((Str.ofString "times" : Str) = Str.ofString "among") = False := eq_false (by decide +kernel)
theorem w_times_among_b : ((Str.ofString "times" : Str) == Str.ofString "among") = false := by decide +kernel
theorem w_times_did : ((Str.ofString "times" : Str) = Str.ofString "did") = False := eq_false (by decide +kernel)
theorem w_times_did_b : ((Str.ofString "times" : Str) == Str.ofString "did") = false := by decide +kernel
theorem w_times_value : ((Str.ofString "times" : Str) = Str.ofString "value") = False := eq_false (by decide +kernel)
theorem w_times_value_b : ((Str.ofString "times" : Str) == Str.ofString "value") = false := by decide +kernel
theorem w_times_head : ((Str.ofString "times" : Str) = Str.ofString "head") = False := eq_false (by decide +kernel)
theorem w_times_head_b : ((Str.ofString "times" : Str) == Str.ofString "head") = false := by decide +kernel
theorem w_value_wrote : ((Str.ofString "value" : Str) = Str.ofString "wrote") = False := eq_false (by decide +kernel)
theorem w_value_wrote_b : ((Str.ofString "value" : Str) == Str.ofString "wrote") = false := by decide +kernel
theorem w_value_many : ((Str.ofString "value" : Str) = Str.ofString "many") = False := eq_false (by decide +kernel)
theorem w_value_many_b : ((Str.ofString "value" : Str) == Str.ofString "many") = false := by decide +kernel
theorem w_value_among : ((Str.ofString "value" : Str) = Str.ofString "among") = False := eq_false (by decide +kernel)
theorem w_value_among_b : ((Str.ofString "value" : Str) == Str.ofString "among") = false := by decide +kernel
theorem w_value_did : ((Str.ofString "value" : Str) = Str.ofString "did") = False := eq_false (by decide +kernel)
theorem w_value_did_b : ((Str.ofString "value" : Str) == Str.ofString "did") = false := by decide +kernel
theorem w_value_times : ((Str.ofString "value" : Str) = Str.ofString "times") = False := eq_false (by decide +kernel)
theorem w_value_times_b : ((Str.ofString "value" : Str) == Str.ofString "times") = false := by decide +kernel
theorem w_value_head : ((Str.ofString "value" : Str) = Str.ofString "head") = False := eq_false (by decide +kernel)
theorem w_value_head_b : ((Str.ofString "value" : Str) == Str.ofString "head") = false := by decide +kernel
theorem w_head_wrote : ((Str.ofString "head" : Str) = Str.ofString "wrote") = False := eq_false (by decide +kernel)
theorem w_head_wrote_b : ((Str.ofString "head" : Str) == Str.ofString "wrote") = false := by decide +kernel
theorem w_head_many : ((Str.ofString "head" : Str) = Str.ofString "many") = False := eq_false (by decide +kernel)
theorem w_head_many_b : ((Str.ofString "head" : Str) == Str.ofString "many") = false := by decide +kernel
theorem w_head_among : ((Str.ofString "head" : Str) = Str.ofString "among") = False := eq_false (by decide +kernel)
theorem w_head_among_b : ((Str.ofString "head" : Str) == Str.ofString "among") = false := by decide +kernel
theorem w_head_did : ((Str.ofString "head" : Str) = Str.ofString "did") = False := eq_false (by decide +kernel)
theorem w_head_did_b : ((Str.ofString "head" : Str) == Str.ofString "did") = false := by decide +kernel
theorem w_head_times : ((Str.ofString "head" : Str) = Str.ofString "times") = False := eq_false (by decide +kernel)
theorem w_head_times_b : ((Str.ofString "head" : Str) == Str.ofString "times") = false := by decide +kernel
theorem w_head_value : ((Str.ofString "head" : Str) = Str.ofString "value") = False := eq_false (by decide +kernel)
theorem w_head_value_b : ((Str.ofString "head" : Str) == Str.ofString "value") = false := by decide +kernel
end DL
namespace DL
open PySem L2
theorem cut_take {α : Type} (xs : List α) {v : Int} (h : 0 ≤ v) : cutD xs none (some v) = xs.take v.toNat := by
  unfold cutD
  have e : v = ((v.toNat : Nat) : Int) := by omega
  rw [HT.sIx_none, e, HT.sIx_nat, List.drop_zero, Nat.sub_zero, Int.toNat_natCast]
  by_cases hl : v.toNat ≤ xs.length
  · rw [Nat.min_eq_left hl]
  · rw [Nat.min_eq_right (by omega), List.take_length, List.take_of_length_le (by omega)]
theorem cut_drop {α : Type} (xs : List α) {v : Int} (h : 0 ≤ v) : cutD xs (some v) none = xs.drop v.toNat := by
  unfold cutD
  have e : v = ((v.toNat : Nat) : Int) := by omega
  rw [HT.sIx_none, e, HT.sIx_nat, Int.toNat_natCast]
  by_cases hl : v.toNat ≤ xs.length
  · rw [Nat.min_eq_left hl, List.take_of_length_le (by rw [List.length_drop]; omega)]
  · rw [Nat.min_eq_right (by omega), Nat.sub_self, List.take_zero, List.drop_of_length_le (by omega)]
end DL
namespace DL
open PySem L2
/-- a comprehension over written data, by its turns -/
theorem lc_byT {α : Type} {F : TF (List D)} {g : TGD} {A : TF Bool} {Fe : TF D} {vs : List Nat} {ρ : Env} {μ : Mu} {Q : D → Mu → Prop} (l : List α) (f : α → D) (S : α → Option D → Prop) (hF : ∀ R : List D → Mu → Prop, R (l.map f) μ → F ρ μ R)
    (ht : ∀ a ∈ l, TurnS g A Fe (wipeE ρ vs) μ (fun _ r => S a r) (f a)) (hQ : ∀ rs, All2 S l rs → Q (.lst (rs.filterMap id)) μ) : dLc F g A Fe vs ρ μ Q := by
  refine hF _ (fun p hp => ⟨fun i μ' => ∃ rs, All2 S (l.take i) rs ∧ (rs.filterMap id).length ≤ i ∧ μ' = μ.put p (.lst (rs.filterMap id)), ⟨[], by simpa using All2.nil, by simp, rfl⟩, fun i d μ' hd ⟨rs, h1, h2, h3⟩ => ?_, fun μ' ⟨rs, h1, h2, h3⟩ => ?_⟩)
  · subst h3
    rw [List.getElem?_map] at hd
    cases ha : l[i]? with
    | none => rw [ha] at hd; cases hd
    | some a =>
      rw [ha] at hd; cases hd
      refine ht a (List.mem_of_getElem? ha) p _ hp _ fun r hr => ?_
      have e : l.take (i + 1) = l.take i ++ [a] := by rw [List.take_add_one, ha]; rfl
      cases r with
      | none => exact ⟨rs ++ [none], by rw [e]; exact h1.snoc hr, by simp [List.filterMap_append]; omega, by simp [List.filterMap_append]⟩
      | some y => exact ⟨_, Mu.put_same, h2, rs ++ [some y], by rw [e]; exact h1.snoc hr, by simp [List.filterMap_append]; omega, by rw [Mu.put_put]; simp [List.filterMap_append]⟩
  · subst h3
    refine ⟨_, Mu.put_same, ?_⟩
    rw [Mu.put_del hp]
    exact hQ rs (by rw [List.length_map, List.take_length] at h1; exact h1)
theorem lc_mapT {α : Type} {F : TF (List D)} {g : TGD} {A : TF Bool} {Fe : TF D} {vs : List Nat} {ρ : Env} {μ : Mu} {Q : D → Mu → Prop} (l : List α) (f h : α → D) (hF : ∀ R : List D → Mu → Prop, R (l.map f) μ → F ρ μ R)
    (ht : ∀ a ∈ l, TurnS g A Fe (wipeE ρ vs) μ (fun _ r => r = some (h a)) (f a)) (hQ : Q (.lst (l.map h)) μ) : dLc F g A Fe vs ρ μ Q :=
  lc_byT l f (fun a r => r = some (h a)) hF ht fun rs hr => by
    rw [all2_fun hr, List.filterMap_map]
    have : (id ∘ fun d => some (h d)) = fun d => some (h d) := rfl
    rw [this, List.filterMap_eq_map']
    exact hQ
theorem lc_fmapT {α : Type} {F : TF (List D)} {g : TGD} {A : TF Bool} {Fe : TF D} {vs : List Nat} {ρ : Env} {μ : Mu} {Q : D → Mu → Prop} (l : List α) (f : α → D) (h : α → Option D) (hF : ∀ R : List D → Mu → Prop, R (l.map f) μ → F ρ μ R)
    (ht : ∀ a ∈ l, TurnS g A Fe (wipeE ρ vs) μ (fun _ r => r = h a) (f a)) (hQ : Q (.lst (l.filterMap h)) μ) : dLc F g A Fe vs ρ μ Q :=
  lc_byT l f (fun a r => r = h a) hF ht fun rs hr => by
    rw [all2_fun hr, List.filterMap_map]
    exact hQ
/-- a loop over written data, the invariant upon the part passed -/
theorem for_map {α : Type} {F : TF (List D)} {g : TGD} {body : TSD} {E : EndsD} {ρ : Env} {μ : Mu} (f : α → D) (l : List α) (I : List α → Env → Mu → Prop) (hF : ∀ R : List D → Mu → Prop, R (l.map f) μ → F ρ μ R) (h0 : I [] ρ μ)
    (ht : ∀ (pre : List α) (a : α) (post : List α) ρ' μ', l = pre ++ a :: post → I pre ρ' μ' → g (f a) ρ' fun ρ2 => body { E with nx := I (pre ++ [a]), ct := I (pre ++ [a]), bk := E.nx } ρ2 μ') (hd : ∀ ρ' μ', I l ρ' μ' → E.nx ρ' μ') : sFor F g body E ρ μ := by
  refine hF _ ⟨fun i ρ' μ' => I (l.take i) ρ' μ', by simpa using h0, fun i d ρ' μ' hi hI => ?_, fun ρ' μ' hI => hd ρ' μ' (by have h : I (l.take (l.map f).length) ρ' μ' := hI; rw [List.length_map, List.take_length] at h; exact h)⟩
  rw [List.getElem?_map] at hi
  cases ha : l[i]? with
  | none => rw [ha] at hi; cases hi
  | some a =>
    rw [ha] at hi; cases hi
    have e : l.take (i + 1) = l.take i ++ [a] := by rw [List.take_add_one, ha]; rfl
    have hl := (List.getElem?_eq_some_iff.mp ha).1
    have e2 : l = l.take i ++ a :: l.drop (i + 1) := by
      have h1 := (List.getElem?_eq_some_iff.mp ha).2
      have := List.take_append_drop i l
      rw [List.drop_eq_getElem_cons hl, h1] at this
      exact this.symm
    show g (f a) ρ' fun ρ2 => body { E with nx := I (l.take (i + 1)), ct := I (l.take (i + 1)), bk := E.nx } ρ2 μ'
    rw [e]
    exact ht (l.take i) a (l.drop (i + 1)) ρ' μ' e2 hI
theorem rng_map (lo : Int) (n : Nat) : rngD lo n = (List.range n).map fun i => D.int (lo + (i : Nat)) := rfl
end DL
namespace DL
open PySem L2
/-- objects that are not asked for any more -/
def Sub (μ μ' : Mu) : Prop := ∀ a o, μ a = some o → μ' a = some o
theorem Sub.put {μ : Mu} {p : Addr} {o : MO} (h : μ p = none) : Sub μ (μ.put p o) := fun a u e => by rw [Mu.put_ne (Mu.ne_of e h)]; exact e
theorem Sub.hide {μ μ' : Mu} {H : Hp} (s : Sub μ μ') : Same (hide H μ') (DL.hide H μ) := fun b u e => by
  obtain ⟨h1, h2⟩ := hide_some.mp e
  refine hide_some.mpr ⟨?_, h2⟩
  cases q : μ b with
  | none => rfl
  | some o => rw [s b o q] at h1; cases h1
theorem Nx.forget {K : PySem.W.Frag} {H H' : Hp} {μ μ' μ2 : Mu} (n : Nx K H μ H' μ') (s : Sub μ2 μ') : Nx K H μ H' μ2 := ⟨n.ext.trans s.hide, fun a o h => (n.wd a o (s a o h)).mono s.hide⟩
theorem Fun.okDf {P : Program} {w : World} {K : PySem.W.Frag} {mg : Str → Option Value} {base : Heap} {x qual : Str} {st : Stmt} {f : Addr} {fd : FuncData} {N ps : List Str} {k : Nat} {C : CT} {G : TSD} (F : L2.Fun K x qual st f fd) (S : FnScope N ps (defScope st))
    (body : ∀ (cdv : Value) (A : Around) (outer : List PySem.Env) (s : Shared) (H : Hp) (E : XK), Room k (A.deeper (PyProof.Rows.envOfC qual (defScope st) s.heap.objs.size f cdv)) → DSs (cxOf CX0 P w K mg base N qual (defScope st) f cdv A outer s H E).nox (defBody st) G)
    (len : ∀ ds μ Q, C ds μ Q → ds.length = ps.length)
    (h : ∀ ds μ Q, C ds μ Q → G { nx := fun _ μ' => ∃ μ2, Sub μ2 μ' ∧ Q .non μ2, rt := fun d μ' => ∃ μ2, Sub μ2 μ' ∧ Q d μ2 } (startD N ds) μ) : FnOk P w K mg base CX0 (k + 1) f fd ps (spD K C) := by
  refine F.ok S (fun vs H Q E ⟨ds, μ, Qd, r, _, c, _⟩ => r.length.trans (len ds μ Qd c)) fun cdv A outer s H vs Q E hr ⟨ds, μ, Qd, r, w', c, kk⟩ => ?_
  refine ⟨_, body cdv A outer s H E hr, startD N ds, μ, _, ⟨renv_start r, w'⟩, h ds μ Qd c, ⟨fun ρ' μ' σ' H' ⟨μ2, sb, g⟩ s' n => kk .non μ2 .non H' g (n.forget sb) .non, fun d μ' v H' ⟨μ2, sb, g⟩ n r' => kk d μ2 v H' g (n.forget sb) (r'.mono sb.hide), fun _ _ _ _ z => z.elim, fun _ _ _ _ z => z.elim⟩⟩
end DL
end

-- part DL9
section
namespace DL
open PySem L2
def bufD (ns : List Int) (i j k : Int) : List D := [.lst (ns.map .int), .int i, .int j, .int k]
def BufOk (ns : List Int) (i j k : Int) : Prop := ns.length ≤ 63 ∧ 0 ≤ i ∧ 0 ≤ j ∧ 0 ≤ k ∧ k < 2147483647
theorem hide_over {H : Hp} {μ : Mu} {a : Addr} {o m : MO} (h : μ a = some o) : hide H (μ.put a m) = hide H μ := by
  funext b; unfold hide Mu.put
  by_cases e : b = a
  · subst e; simp [h]
  · simp [e]
theorem rpi_of {K : PySem.W.Frag} {G : Hp} : ∀ ns : List Int, RpAll K G (ns.map V.int) (ns.map D.int)
  | [] => .nil
  | n :: ns => .cons (.int n) (rpi_of ns)
theorem rpi_inv {K : PySem.W.Frag} {G : Hp} : ∀ {ns : List Int} {vs : List V}, RpAll K G vs (ns.map D.int) → vs = ns.map V.int
  | [], _, .nil => rfl
  | n :: ns, _, .cons (.int _) r => by rw [rpi_inv r]; rfl
theorem draw_open {K : PySem.W.Frag} {H : Hp} {μ : Mu} {a : Addr} (w : Wd K H μ) (h : μ a = some .draw) : ∃ ns i j k, BufOk ns i j k ∧ Wd K H (μ.put a (.lst (bufD ns i j k))) := by
  obtain ⟨b, ns, i, j, k, h1, h2, h3, h4⟩ := w a _ h
  refine ⟨ns, i, j, k, ⟨h3, h4⟩, fun c o hc => ?_⟩
  rw [hide_over h]
  by_cases e : c = a
  · subst e
    rw [Mu.put_same] at hc
    cases hc
    exact ⟨_, h1, .cons (.lst h2 (rpi_of ns) (by rw [List.length_map]; exact sz_small (by omega))) (.cons (.int _) (.cons (.int _) (.cons (.int _) .nil))), (by decide : 4 ≤ sizeLine)⟩
  · rw [Mu.put_ne e] at hc
    exact w c o hc
theorem draw_shut {K : PySem.W.Frag} {H : Hp} {μ : Mu} {a : Addr} {ns : List Int} {i j k : Int} (w : Wd K H μ) (h : μ a = some (.lst (bufD ns i j k))) (b : BufOk ns i j k) : Wd K H (μ.put a .draw) := by
  obtain ⟨xs, h1, h2, h3⟩ := w a _ h
  intro c o hc
  rw [hide_over h]
  by_cases e : c = a
  · subst e
    rw [Mu.put_same] at hc
    cases hc
    unfold bufD at h2
    cases h2 with
    | cons r1 r =>
      cases r with
      | cons r2 r =>
        cases r with
        | cons r3 r =>
          cases r with
          | cons r4 r =>
            cases r
            cases r2; cases r3; cases r4
            cases r1 with
            | lst g1 g2 g3 => exact ⟨_, ns, i, j, k, h1, by rw [rpi_inv g2] at g1; exact g1, b⟩
  · rw [Mu.put_ne e] at hc
    exact w c o hc
theorem buf_ix {μ : Mu} {p : Addr} {ds : List D} {i : Int} {P : D → Prop} (h : μ p = some (.lst ds)) : (∃ es d, μ p = some (MO.lst es) ∧ atI es i = some d ∧ P d) = ∃ d, atI ds i = some d ∧ P d := by
  rw [h]
  exact propext ⟨fun ⟨es, d, e, a, b⟩ => by cases e; exact ⟨d, a, b⟩, fun ⟨d, a, b⟩ => ⟨ds, d, rfl, a, b⟩⟩
theorem abs_nn (i : Int) : 0 ≤ absI i := by unfold absI; split <;> omega
/-- the wish of a def that reads a drawer, by its cells -/
def C0_next : CT := fun ds μ Q => match ds with
  | [.ptr dr, .int many] => ∃ ns i j k, μ dr = some (.lst (bufD ns i j k)) ∧ BufOk ns i j k ∧ 0 < many ∧ many < 1073741824 ∧ ∀ (r : Int) (i' j' k' : Int), 0 ≤ r → r < many → BufOk ns i' j' k' → Q (.int r) (μ.put dr (.lst (bufD ns i' j' k')))
  | _ => False
def C_next : CT := fun ds μ Q => match ds with
  | [.ptr dr, .int many] => μ dr = some .draw ∧ 0 < many ∧ many < 1073741824 ∧ ∀ r : Int, 0 ≤ r → r < many → Q (.int r) μ
  | _ => False
theorem next_imp {K : PySem.W.Frag} {vs : List V} {H : Hp} {Q : VK} {E : XK} (h : spD K C_next vs H Q E) : spD K C0_next vs H Q E := by
  obtain ⟨ds, μ, Qd, r, w, c, kk⟩ := h
  unfold C_next at c
  split at c
  · rename_i ds' dr many
    obtain ⟨h1, h2, h3, h4⟩ := c
    obtain ⟨ns, i, j, k, hb, w2⟩ := draw_open w h1
    refine ⟨_, _, fun d μ' => ∃ (r : Int) (i' j' k' : Int), d = .int r ∧ 0 ≤ r ∧ r < many ∧ BufOk ns i' j' k' ∧ μ' = (μ.put dr (.lst (bufD ns i j k))).put dr (.lst (bufD ns i' j' k')), by rw [hide_over h1]; exact r, w2, ?_, ?_⟩
    · exact ⟨ns, i, j, k, Mu.put_same, hb, h2, h3, fun r i' j' k' h0 hm hb' => ⟨r, i', j', k', rfl, h0, hm, hb', rfl⟩⟩
    · rintro d μ' v H' ⟨r', i', j', k', rfl, h0, hm, hb', rfl⟩ n rv
      have w3 := draw_shut n.wd Mu.put_same hb'
      have e : ((((μ.put dr (.lst (bufD ns i j k))).put dr (.lst (bufD ns i' j' k'))).put dr .draw) : Mu) = μ := by
        rw [Mu.put_put, Mu.put_put]
        funext b; unfold Mu.put; split
        · rename_i e; subst e; exact h1.symm
        · rfl
      have e2 : hide H' μ = hide H' ((μ.put dr (.lst (bufD ns i j k))).put dr (.lst (bufD ns i' j' k'))) := by rw [Mu.put_put, hide_over h1]
      rw [e] at w3
      refine kk _ μ v H' (h4 r' h0 hm) ⟨?_, w3⟩ ?_
      · have := n.ext
        rw [hide_over h1] at this
        rw [e2]
        exact this
      · cases rv; exact .int _
  · exact c.elim
def C0_draw : CT := fun ds μ Q => match ds with
  | [.scr ns] => ns.length ≤ 63 ∧ ∀ p, μ p = none → Q (.ptr p) (μ.put p (.lst (bufD ns 0 0 17)))
  | _ => False
def C_draw : CT := fun ds μ Q => match ds with
  | [.scr ns] => ns.length ≤ 63 ∧ ∀ p, μ p = none → Q (.ptr p) (μ.put p .draw)
  | _ => False
theorem draw_imp {K : PySem.W.Frag} {vs : List V} {H : Hp} {Q : VK} {E : XK} (h : spD K C_draw vs H Q E) : spD K C0_draw vs H Q E := by
  obtain ⟨ds, μ, Qd, r, w, c, kk⟩ := h
  unfold C_draw at c
  split at c
  · rename_i ds' ns
    obtain ⟨h1, h4⟩ := c
    refine ⟨_, _, fun d μ' => ∃ p, μ p = none ∧ d = .ptr p ∧ μ' = μ.put p (.lst (bufD ns 0 0 17)), r, w, ⟨h1, fun p hp => ⟨p, hp, rfl, rfl⟩⟩, ?_⟩
    rintro d μ' v H' ⟨p, hp, rfl, rfl⟩ n rv
    have w3 := draw_shut n.wd Mu.put_same ⟨h1, by omega, by omega, by omega, by omega⟩
    rw [Mu.put_put] at w3
    have e2 : hide H' (μ.put p .draw) = hide H' (μ.put p (.lst (bufD ns 0 0 17))) := by
      have := hide_over (H := H') (m := .draw) (Mu.put_same (μ := μ) (a := p) (o := .lst (bufD ns 0 0 17)))
      rw [Mu.put_put] at this
      exact this
    refine kk _ _ v H' (h4 p hp) ⟨?_, w3⟩ ?_
    · rw [e2]; exact n.ext
    · cases rv; exact .ptr _
  · exact c.elim
end DL
end

-- part DL10
section
namespace DL
open PySem L2
variable {ρ : DL.Env} {μ : Mu} {E : EndsD}
theorem step_set {i : Nat} {F : TF D} {REST : TSD} (S : D → Mu → Prop) (hF : ∀ R : D → Mu → Prop, (∀ d μ', S d μ' → R d μ') → F ρ μ R) (h : ∀ d μ', S d μ' → REST E (ρ.set i (some d)) μ') : sSeq (sSet i F) REST E ρ μ := hF _ h
theorem step {a REST : TSD} (S : DL.Env → Mu → Prop) (ha : ∀ E' : EndsD, (∀ ρ' μ', S ρ' μ' → E'.nx ρ' μ') → a E' ρ μ) (h : ∀ ρ' μ', S ρ' μ' → REST E ρ' μ') : sSeq a REST E ρ μ := ha _ h
theorem step_for {α : Type} {F : TF (List D)} {g : TGD} {body REST : TSD} (f : α → D) (l : List α) (I : List α → DL.Env → Mu → Prop) (hF : ∀ R : List D → Mu → Prop, R (l.map f) μ → F ρ μ R) (h0 : I [] ρ μ)
    (ht : ∀ (pre : List α) (a : α) (post : List α) ρ' μ', l = pre ++ a :: post → I pre ρ' μ' → ∀ E' : EndsD, E'.rt = E.rt → (∀ ρ3 μ3, I (pre ++ [a]) ρ3 μ3 → E'.nx ρ3 μ3) → g (f a) ρ' fun ρ2 => body E' ρ2 μ') (hd : ∀ ρ' μ', I l ρ' μ' → REST E ρ' μ') : sSeq (sFor F g body) REST E ρ μ :=
  for_map (E := { E with nx := REST E }) f l I hF h0 (fun pre a post ρ' μ' e hI => ht pre a post ρ' μ' e hI _ rfl fun _ _ h => h) hd
theorem last_for {α : Type} {F : TF (List D)} {g : TGD} {body : TSD} (f : α → D) (l : List α) (I : List α → DL.Env → Mu → Prop) (hF : ∀ R : List D → Mu → Prop, R (l.map f) μ → F ρ μ R) (h0 : I [] ρ μ)
    (ht : ∀ (pre : List α) (a : α) (post : List α) ρ' μ', l = pre ++ a :: post → I pre ρ' μ' → ∀ E' : EndsD, E'.rt = E.rt → (∀ ρ3 μ3, I (pre ++ [a]) ρ3 μ3 → E'.nx ρ3 μ3) → g (f a) ρ' fun ρ2 => body E' ρ2 μ') (hd : ∀ ρ' μ', I l ρ' μ' → E.nx ρ' μ') : sFor F g body E ρ μ :=
  for_map f l I hF h0 (fun pre a post ρ' μ' e hI => ht pre a post ρ' μ' e hI _ rfl fun _ _ h => h) hd
theorem step_forQ {α : Type} {F : TF (List D)} {g : TGD} {body REST : TSD} (f : α → D) (G : List α → Prop) (I : List α → DL.Env → Mu → Prop) (hF : ∀ R : List D → Mu → Prop, (∀ l, G l → R (l.map f) μ) → F ρ μ R) (h0 : I [] ρ μ)
    (ht : ∀ (l pre : List α) (a : α) (post : List α) ρ' μ', G l → l = pre ++ a :: post → I pre ρ' μ' → ∀ E' : EndsD, E'.rt = E.rt → (∀ ρ3 μ3, I (pre ++ [a]) ρ3 μ3 → E'.nx ρ3 μ3) → g (f a) ρ' fun ρ2 => body E' ρ2 μ') (hd : ∀ l ρ' μ', G l → I l ρ' μ' → REST E ρ' μ') : sSeq (sFor F g body) REST E ρ μ :=
  hF _ fun l hl => step_for (F := fun _ μ R => R (l.map f) μ) f l I (fun R h => h) h0 (fun pre a post ρ' μ' e hI => ht l pre a post ρ' μ' hl e hI) fun ρ' μ' hI => hd l ρ' μ' hl hI
end DL
end

-- part DL11
section
/-! instances, methods, texts at the data layer -/
namespace DL
open PySem L2
abbrev FsR (K : PySem.W.Frag) (G : Hp) (gs : List (Str × V)) (fs : List (Str × D)) : Prop := Paired (fun (p : Str × V) (q : Str × D) => p.1 = q.1 ∧ Rp K G p.2 q.2) gs fs
theorem fs_lookup {K : PySem.W.Frag} {G : Hp} {f : Str} : ∀ {gs : List (Str × V)} {fs : List (Str × D)} {d : D}, FsR K G gs fs → fs.lookup f = some d → ∃ v, gs.lookup f = some v ∧ Rp K G v d
  | _, _, d, .nil, h => by cases h
  | (a, v) :: gs, (b, u) :: fs, d, .cons ⟨e, r⟩ t, h => by
    simp only at e r
    subst e
    rw [List.lookup_cons] at h ⊢
    split at h
    · cases h
      exact ⟨v, rfl, r⟩
    · exact fs_lookup t h
theorem fs_none {K : PySem.W.Frag} {G : Hp} {f : Str} : ∀ {gs : List (Str × V)} {fs : List (Str × D)}, FsR K G gs fs → fs.lookup f = none → gs.lookup f = none
  | _, _, .nil, h => rfl
  | (a, v) :: gs, (b, u) :: fs, .cons ⟨e, r⟩ t, h => by
    simp only at e r
    subst e
    rw [List.lookup_cons] at h ⊢
    split at h
    · cases h
    · exact fs_none t h
def putD (f : Str) (d : D) : List (Str × D) → List (Str × D)
  | [] => [(f, d)]
  | (g, x) :: r => if g = f then (g, d) :: r else (g, x) :: putD f d r
theorem fs_put {K : PySem.W.Frag} {G : Hp} {f : Str} {v : V} {d : D} (r : Rp K G v d) : ∀ {gs : List (Str × V)} {fs : List (Str × D)}, FsR K G gs fs → FsR K G (putF f v gs) (putD f d fs)
  | _, _, .nil => .cons ⟨rfl, r⟩ .nil
  | (a, v') :: gs, (b, u) :: fs, .cons ⟨e, r'⟩ t => by
    simp only at e r'
    subst e
    unfold putF putD
    split
    · exact .cons ⟨rfl, r⟩ t
    · exact .cons ⟨rfl, r'⟩ (fs_put r t)
theorem fs_len {K : PySem.W.Frag} {G : Hp} : ∀ {gs : List (Str × V)} {fs : List (Str × D)}, FsR K G gs fs → gs.length = fs.length
  | _, _, .nil => rfl
  | _, _, .cons _ t => by simp [fs_len t]
theorem fs_mono {K : PySem.W.Frag} {G G' : Hp} (e : Same G G') {gs : List (Str × V)} {fs : List (Str × D)} (h : FsR K G gs fs) : FsR K G' gs fs := Paired.mapP h fun _ _ z => ⟨z.1, z.2.mono e⟩
section
variable {X : Cx} {C : Addr} {f : Str} {o e : Expr} {Fo Fe : TF D} {pos pos' tpos : Pos}
/-- o.f -/
def dFld (C : Addr) (f : Str) (F : TF D) : TF D := fun ρ μ Q => F ρ μ fun x μ1 => ∃ a fs d, x = .ptr a ∧ μ1 a = some (.ins C fs) ∧ fs.lookup f = some d ∧ Q d μ1
theorem de_fld (c : Cls X.K C) (n : NoAttr X.K C f) (ho : DE X o Fo) (hb : attributeBase o f X.env (eval o X.env) = eval o X.env := by rfl) : DE X (.Attribute o f pos) (dFld C f Fo) := by
  refine weakE (pe_fld ho hb) fun σ H Q ⟨ρ, μ, Qd, s, h, kk⟩ => Lift.go (F := Fo) s h fun x μ1 v H1 ⟨a, fs, d, ex, hm, hl, g⟩ s1 n1 r1 => ?_
  subst ex
  cases r1
  obtain ⟨dx, gs, h1, h2⟩ := s1.wd a _ hm
  obtain ⟨w', hw, rw'⟩ := fs_lookup h2 hl
  exact ⟨a, C, dx, gs, w', rfl, h1, c, n, hw, kk d μ1 w' H1 g n1 rw'⟩
/-- o.f = e -/
def sFld (C : Addr) (f : Str) (Fo Fe : TF D) : TSD := fun E ρ μ => Fe ρ μ fun y μ1 => Fo ρ μ1 fun x μ2 => ∃ a fs, x = .ptr a ∧ μ2 a = some (.ins C fs) ∧ fs.length < 1000 ∧ E.nx ρ (μ2.put a (.ins C (putD f y fs)))
theorem ds_fld (c : Cls X.K C) (n : NoAttr X.K C f) (ho : DE X o Fo) (he : DE X e Fe) (hs : swapsWith e (some (.Attribute o f pos')) pos.line X.env = pure false := by rfl) : DS X (.Assign [.Attribute o f pos'] e pos) (sFld C f Fo Fe) :=
  weakS (ps_fld ho he hs) fun D' σ H ⟨ρ, μ, E, s, h, cc⟩ => Lift.go (F := Fe) s h fun y μ1 vy H1 g1 s1 n1 r1 => Lift.go (F := Fo) s1 g1 fun x μ2 vx H2 ⟨a, fs, ex, hm, hl, g⟩ s2 n2 r2 => by
    subst ex
    cases r2
    obtain ⟨dx, gs, h1, h2⟩ := s2.wd a _ hm
    have n3 : Nx X.K H2 μ2 (upd H2 a (.ins C dx (putF f vy gs))) (μ2.put a (.ins C (putD f y fs))) := Nx.put s2.wd (fun z => by rw [hm] at z; cases z) ⟨dx, _, rfl, fs_put (r1.mono n2.ext) h2⟩
    exact ⟨a, C, dx, gs, rfl, h1, c, n, by rw [fs_len h2]; exact hl, cc.nx ρ _ σ _ g (s2.next n3) ((n1.trans n2).trans n3)⟩
/-- o.f += e, ints -/
def sFldI (C : Addr) (f : Str) (Fo Fe : TF D) : TSD := fun E ρ μ => Fo ρ μ fun x μ1 => ∃ a fs i, x = .ptr a ∧ μ1 a = some (.ins C fs) ∧ fs.lookup f = some (.int i) ∧ Fe ρ μ1 fun y μ2 => ∃ j fs', y = .int j ∧ μ2 a = some (.ins C fs') ∧ fs'.length < 1000 ∧ E.nx ρ (μ2.put a (.ins C (putD f (.int (i + j)) fs')))
theorem ds_fldI (c : Cls X.K C) (n : NoAttr X.K C f) (ho : DE X o Fo) (he : DE X e Fe) : DS X (.AugAssign (.Attribute o f tpos) .Add e pos) (sFldI C f Fo Fe) :=
  weakS (ps_fldaug ho he in_add) fun D' σ H ⟨ρ, μ, E, s, h, cc⟩ => Lift.go (F := Fo) s h fun x μ1 vx H1 ⟨a, fs, i, ex, hm, hl, g1⟩ s1 n1 r1 => by
    subst ex
    cases r1
    obtain ⟨dx, gs, h1, h2⟩ := s1.wd a _ hm
    obtain ⟨w', hw, rw'⟩ := fs_lookup h2 hl
    cases rw'
    refine ⟨a, C, dx, gs, _, rfl, h1, c, n, hw, Lift.go (F := Fe) s1 g1 fun y μ2 vy H2 ⟨j, fs', ey, hm2, hl2, g⟩ s2 n2 r2 => ?_⟩
    subst ey
    cases r2
    obtain ⟨dx2, gs2, h3, h4⟩ := s2.wd a _ hm2
    have n3 : Nx X.K H2 μ2 (upd H2 a (.ins C dx2 (putF f (.int (i + j)) gs2))) (μ2.put a (.ins C (putD f (.int (i + j)) fs'))) := Nx.put s2.wd (fun z => by rw [hm2] at z; cases z) ⟨dx2, _, rfl, fs_put (.int _) h4⟩
    exact ⟨i, j, rfl, rfl, dx2, gs2, h3, by rw [fs_len h4]; exact hl2, cc.nx ρ _ σ _ g (s2.next n3) ((n1.trans n2).trans n3)⟩
end
section
variable {X : Cx} {C : Addr} {m : Str} {o e : Expr} {es : List Expr} {Fo : TF D} {A : TF (List D)} {pos apos p : Pos} {k : Nat} {g : Addr} {fd : FuncData} {ps : List Str} {Ct : CT} {CX : CXT} {E : XK}
/-- o.m(..) -/
def dMeth (C : Addr) (m : Str) (Ct : CT) (Fo : TF D) (A : TF (List D)) : TF D := fun ρ μ Q => Fo ρ μ fun x μ1 => ∃ a fs, x = .ptr a ∧ μ1 a = some (.ins C fs) ∧ fs.lookup m = none ∧ A ρ μ1 fun ds μ2 => Ct (.ptr a :: ds) μ2 Q
theorem meth_go {σ : L2.St} {H : Hp} {Q : VK} {K : PySem.W.Frag} (h : tD K (dMeth C m Ct Fo A) σ H Q) : tMeth C m (spD K Ct) [] E (tD K Fo) (tDA K A) σ H Q := by
  obtain ⟨ρ, μ, Qd, s, hf, kk⟩ := h
  refine Lift.go s hf fun x μ1 v H1 ⟨a, fs, ex, hm, hl, g1⟩ s1 n1 r1 => ?_
  subst ex
  cases r1
  obtain ⟨dx, gs, h1, h2⟩ := s1.wd a _ hm
  refine ⟨a, dx, gs, rfl, h1, fs_none h2 hl, Lift.go s1 g1 fun ds μ2 vs H2 g2 s2 n2 r2 => ?_⟩
  exact ⟨.ptr a :: ds, μ2, Qd, by rw [List.append_nil]; exact .cons (.ptr a) r2, s2.wd, g2, fun d μ' v H' q n r => kk d μ' v H' q ((n1.trans n2).trans n) r⟩
theorem de_meth {pl : Sem Bool} (c : Cls X.K C) (hm : Meth X.K C m g) (F : FnOk X.prog X.w X.K X.mg X.base CX k g fd ps (spD X.K Ct)) (hr : Room k X.A) (hb : Binds X.K fd ps []) (hx : Passes CX X E) (ho : DE X o Fo) (ha : DA X (e :: es) A)
    (hst : starEach (e :: es) X.env = (false, eval e X.env) :: starEach es X.env := by rfl) (hpl : (backTo pos (starEach es X.env)).any (·.1) = false := by rfl)
    (ht : eval (.Call (.Attribute o m apos) (e :: es) [] pos) X.env = (do
      let ov ← eval o X.env
      standAt apos.atName
      let (f, fst) ← holding [ov] (getMethod ov m pl)
      callWith pos f fst (backTo pos (starEach (e :: es) X.env)) (backToKw pos (keywordEach [] X.env))) := by rfl) :
    DE X (.Call (.Attribute o m apos) (e :: es) [] pos) (dMeth C m Ct Fo A) := weakE (pe_meth (pl := pl) ho c hm F hr hb .nil hx ha hst hpl ht) fun _ _ _ h => meth_go h
theorem de_meth0 {pl : Sem Bool} (c : Cls X.K C) (hm : Meth X.K C m g) (F : FnOk X.prog X.w X.K X.mg X.base CX k g fd ps (spD X.K Ct)) (hr : Room k X.A) (hb : Binds X.K fd ps []) (hx : Passes CX X E) (ho : DE X o Fo)
    (ht : eval (.Call (.Attribute o m apos) [] [] pos) X.env = (do
      let ov ← eval o X.env
      standAt apos.atName
      let (f, fst) ← holding [ov] (getMethod ov m pl)
      callWith pos f fst (backTo pos (starEach [] X.env)) (backToKw pos (keywordEach [] X.env))) := by rfl) :
    DE X (.Call (.Attribute o m apos) [] [] pos) (dMeth C m Ct Fo aNil) := weakE (pe_meth0 (pl := pl) ho c hm F hr hb .nil hx ht) fun σ H Q h => by
  obtain ⟨ρ, μ, Qd, s, hf, kk⟩ := h
  refine Lift.go s hf fun x μ1 v H1 ⟨a, fs, ex, hm', hl, g1⟩ s1 n1 r1 => ?_
  subst ex
  cases r1
  obtain ⟨dx, gs, h1, h2⟩ := s1.wd a _ hm'
  exact ⟨a, dx, gs, rfl, h1, fs_none h2 hl, [.ptr a], μ1, Qd, .cons (.ptr a) .nil, s1.wd, g1, fun d μ' v H' q n r => kk d μ' v H' q (n1.trans n) r⟩
/-- C(..) -/
def dMake (C : Addr) (Ct : CT) (A : TF (List D)) : TF D := fun ρ μ Q => A ρ μ fun ds μ1 => ∀ q, μ1 q = none → Ct (.ptr q :: ds) (μ1.put q (.ins C [])) fun d μ2 => d = .non ∧ Q (.ptr q) μ2
theorem make_go {σ : L2.St} {H : Hp} {Q : VK} {K : PySem.W.Frag} (h : tD K (dMake C Ct A) σ H Q) : tMake C (spD K Ct) [] E (tDA K A) σ H Q := by
  obtain ⟨ρ, μ, Qd, s, hf, kk⟩ := h
  refine Lift.go s hf fun ds μ1 vs H1 g1 s1 n1 r1 q dx hq hdx hne => ?_
  have hm := s1.wd.free hq
  have na : Nx K H1 μ1 (upd H1 dx (.own q)) μ1 := Nx.new s1.wd hdx
  have nb : Nx K (upd H1 dx (.own q)) μ1 (upd (upd H1 dx (.own q)) q (.ins C dx [])) (μ1.put q (.ins C [])) := Nx.put na.wd (fun _ => by rw [upd_ne (Ne.symm hne)]; exact hq) ⟨dx, [], rfl, .nil⟩
  have nn := na.trans nb
  refine ⟨.ptr q :: ds, _, fun d μ2 => d = .non ∧ Qd (.ptr q) μ2, by rw [List.append_nil]; exact .cons (.ptr q) (r1.mono nn.ext), nn.wd, g1 q hm, fun d μ' v H' ⟨ed, qd⟩ n r => ?_⟩
  subst ed
  cases r
  exact ⟨rfl, kk _ μ' _ H' qd ((n1.trans nn).trans n) (.ptr q)⟩
theorem de_make {x : Str} (M : Mk X.K C g) (F : FnOk X.prog X.w X.K X.mg X.base CX k g fd ps (spD X.K Ct)) (hr : Room (k + 1) X.A) (hg : Gl X x) (hmg : X.mg x = some (.ref C)) (hb : Binds X.K fd ps []) (hx : Passes CX X E) (ha : DA X (e :: es) A)
    (hdb : (x == ("__debug__" : Str)) = false := by decide) (he : starEach (e :: es) X.env = (false, eval e X.env) :: starEach es X.env := by rfl) (hpl : (backTo pos (starEach es X.env)).any (·.1) = false := by rfl) :
    DE X (.Call (.Name x p) (e :: es) [] pos) (dMake C Ct A) := weakE (pe_make M F hr hg hmg hb .nil hx ha hdb he hpl) fun _ _ _ h => make_go h
end
end DL
end

-- part DL12
section
/-! texts at the data layer -/
namespace DL
open PySem L2
section
variable {K : PySem.W.Frag}
/-- str(x), an int or a text -/
def fStr : FB := fun _ ds P => match ds with
  | [.int i] => i.natAbs.log2 < 1920 ∧ SOk (toString i) ∧ P (.str (toString i))
  | [.str a] => P (.str a)
  | _ => False
theorem call_strIS {X : Cx} : CallR X (.type "str") (fun xs H Q => (∃ i : Int, xs = [.int i] ∧ i.natAbs.log2 < 1920 ∧ Q (.str (toString i)) H) ∨ ∃ a, xs = [.str a] ∧ Q (.str a) H) := by
  intro pins s σ H xs us Q I r h
  rcases h with h | h
  · exact call_str_int pins s σ H xs us Q I r h
  · exact SkE.call_str_str pins s σ H xs us Q I r h
theorem cd_str : CallD K (fun xs H Q => (∃ i : Int, xs = [.int i] ∧ i.natAbs.log2 < 1920 ∧ Q (.str (toString i)) H) ∨ ∃ a, xs = [.str a] ∧ Q (.str a) H) fStr := by
  intro ds vs H μ P Q w r q k
  unfold fStr at q
  split at q
  · obtain ⟨v, rfl, r1⟩ := rp1 r
    cases r1
    exact .inl ⟨_, rfl, q.1, k _ _ H q.2.2 (Nx.refl w) (.str _ q.2.1)⟩
  · obtain ⟨v, rfl, r1⟩ := rp1 r
    cases r1 with
    | str a ha => exact .inr ⟨_, rfl, k _ _ H q (Nx.refl w) (.str _ ha)⟩
  · exact q.elim
end
section
variable {X : Cx} {o e : Expr} {Fo Fe : TF D} {pos apos : Pos}
/-- {x} in a text -/
def dFmt (F : TF D) : TF D := fun ρ μ Q => F ρ μ fun x μ1 => match x with
  | .str y => Q (.str y) μ1
  | .int i => i.natAbs.log2 < 1920 ∧ SOk (toString i) ∧ Q (.str (toString i)) μ1
  | _ => False
theorem de_fmt (he : DE X e Fe) : DE X (.FormattedValue e (-1) none pos) (dFmt Fe) := by
  refine weakE (pe_fmt he) fun σ H Q ⟨ρ, μ, Qd, s, h, kk⟩ => Lift.go (F := Fe) s h fun x μ1 v H1 g s1 n1 r1 => ?_
  cases r1 with
  | str y hy => exact .inl ⟨y, rfl, hy.1, kk _ μ1 _ H1 g n1 (.str y hy)⟩
  | int i => exact .inr ⟨i, rfl, g.1, kk _ μ1 _ H1 g.2.2 n1 (.str _ g.2.1)⟩
  | non => exact False.elim g
  | bl _ => exact False.elim g
  | tup _ _ _ => exact False.elim g
  | lst _ _ _ => exact False.elim g
  | ptr _ => exact False.elim g
  | scr _ => exact False.elim g
  | ty _ => exact False.elim g
/-- the parts of a text -/
inductive DJ (X : Cx) : List Expr → List (TF D) → Prop where
  | nil : DJ X [] []
  | cons {e : Expr} {F : TF D} {es : List Expr} {Fs : List (TF D)} (h : DE X e F) (r : DJ X es Fs) : DJ X (e :: es) (F :: Fs)
def dJs : List (TF D) → Str → Env → Mu → (D → Mu → Prop) → Prop
  | [], acc, _, μ, Q => SOk acc ∧ Q (.str acc) μ
  | F :: Fs, acc, ρ, μ, Q => F ρ μ fun x μ1 => ∃ y : Str, x = .str y ∧ (acc ++ y).length ≤ sizeLine ∧ dJs Fs (acc ++ y) ρ μ1 Q
theorem DJ.pj {es : List Expr} {Fs : List (TF D)} (h : DJ X es Fs) : PJ X es (Fs.map (tD X.K)) := by
  induction h with
  | nil => exact .nil
  | cons h r ih => exact .cons h ih
theorem js_go {K : PySem.W.Frag} {σ : L2.St} {ρ : Env} : ∀ (Fs : List (TF D)) (acc : Str) (H : Hp) (μ : Mu) (Q : Str → Hp → Prop) (Qd : D → Mu → Prop), StOk K H μ σ ρ → dJs Fs acc ρ μ Qd →
    (∀ out μ' H', SOk out → Qd (.str out) μ' → Nx K H μ H' μ' → Q out H') → tJs (Fs.map (tD K)) acc σ H Q
  | [], acc, H, μ, Q, Qd, s, h, kk => kk acc μ H h.1 h.2 (Nx.refl s.wd)
  | F :: Fs, acc, H, μ, Q, Qd, s, h, kk => by
    show tD K F σ H _
    refine Lift.go (F := F) s h fun x μ1 v H1 ⟨y, ex, hl, g⟩ s1 n1 r1 => ?_
    subst ex
    cases r1
    exact ⟨y, rfl, hl, js_go Fs (acc ++ y) H1 μ1 Q Qd s1 g fun out μ' H' so q n => kk out μ' H' so q (n1.trans n)⟩
def dJoined (Fs : List (TF D)) : TF D := fun ρ μ Q => dJs Fs Str.empty ρ μ Q
theorem de_joined {v1 v2 : Expr} {rest : List Expr} {Fs : List (TF D)} (h : DJ X (v1 :: v2 :: rest) Fs) : DE X (.JoinedStr (v1 :: v2 :: rest) pos) (dJoined Fs) :=
  weakE (pe_joined h.pj) fun σ H Q ⟨ρ, μ, Qd, s, hf, kk⟩ => js_go Fs Str.empty H μ _ Qd s hf fun out μ' H' so q n => kk (.str out) μ' (.str out) H' q n (.str out so)
/-- sep.join(texts) -/
def dJoin (Fo Fe : TF D) : TF D := fun ρ μ Q => Fo ρ μ fun x μ1 => ∃ a : Str, x = .str a ∧ Fe ρ μ1 fun y μ2 => ∃ ds ks, (y = .lst ds ∨ y = .tup ds) ∧ strsD ds = some ks ∧ (ks.map (·.length)).sum + ks.length * a.length ≤ 16777216 ∧ SOk (Txt.join a ks) ∧ Q (.str (Txt.join a ks)) μ2
theorem de_join (ho : DE X o Fo) (he : DE X e Fe) (hs : starEach [e] X.env = [(false, eval e X.env)] := by rfl) (hbase : attributeBase o "join" X.env (eval o X.env) = eval o X.env := by rfl) (hline : (apos.endLine == pos.line) = true := by rfl) :
    DE X (.Call (.Attribute o "join" apos) [e] [] pos) (dJoin Fo Fe) := by
  refine weakE (pe_join ho he hs hbase hline) fun σ H Q ⟨ρ, μ, Qd, s, h, kk⟩ => Lift.go (F := Fo) s h fun x μ1 v H1 ⟨a, ex, g1⟩ s1 n1 r1 => ?_
  subst ex
  cases r1
  refine ⟨⟨a, rfl⟩, Lift.go (F := Fe) s1 g1 fun y μ2 v2 H2 ⟨ds, ks, ey, hk, hz, so, g⟩ s2 n2 r2 => ?_⟩
  have fin := kk _ μ2 (.str (Txt.join a ks)) H2 g (n1.trans n2) (.str _ so)
  rcases ey with ey | ey
  · subst ey
    cases r2 with
    | lst ha ra za =>
      obtain ⟨e1, e2, e3⟩ := strs_inv ra hk
      subst e1
      exact ⟨a, _, ks, rfl, rfl, .inl (SqL.of (hide_in ha)), hz, fin⟩
  · subst ey
    cases r2 with
    | tup ha ra za =>
      obtain ⟨e1, e2, e3⟩ := strs_inv ra hk
      subst e1
      exact ⟨a, _, ks, rfl, rfl, .inr (SqT.of (hide_in ha)), hz, fin⟩
/-- x.split(sep) -/
def dSplit (Fo Fe : TF D) : TF D := fun ρ μ Q => Fo ρ μ fun x μ1 => ∃ a : Str, x = .str a ∧ Fe ρ μ1 fun y μ2 => ∃ b : Str, y = .str b ∧ (b.length == 0) = false ∧ a.length + 2 ≤ sizeLine ∧ (Txt.split a b).length ≤ sizeLine ∧ (∀ k ∈ Txt.split a b, SOk k) ∧ Q (.lst ((Txt.split a b).map .str)) μ2
theorem de_split (ho : DE X o Fo) (he : DE X e Fe) (hs : starEach [e] X.env = [(false, eval e X.env)] := by rfl) (hbase : attributeBase o "split" X.env (eval o X.env) = eval o X.env := by rfl) (hline : (apos.endLine == pos.line) = true := by rfl) :
    DE X (.Call (.Attribute o "split" apos) [e] [] pos) (dSplit Fo Fe) := by
  refine weakE (pe_m1 F.slot_str_split F.type_str_split mt_split ho he hs hbase hline) fun σ H Q ⟨ρ, μ, Qd, s, h, kk⟩ => Lift.go (F := Fo) s h fun x μ1 v H1 ⟨a, ex, g1⟩ s1 n1 r1 => ?_
  subst ex
  cases r1
  refine ⟨⟨a, rfl⟩, Lift.go (F := Fe) s1 g1 fun y μ2 v2 H2 ⟨b, ey, hb, hz, hz2, so, g⟩ s2 n2 r2 => ?_⟩
  subst ey
  cases r2
  refine ⟨a, b, rfl, rfl, hb, hz, fun p hp => ?_⟩
  have n3 : Nx X.K H2 μ2 (upd H2 p (.lst ((Txt.split a b).map V.str))) μ2 := Nx.new s2.wd hp
  exact kk _ μ2 _ _ g ((n1.trans n2).trans n3) (.lst (new_at (s2.wd.free hp)) (rp_strs so) (by rw [List.length_map]; exact hz2))
/-- x.lstrip(signs) -/
def dLstrip (Fo Fe : TF D) : TF D := fun ρ μ Q => Fo ρ μ fun x μ1 => ∃ a : Str, x = .str a ∧ Fe ρ μ1 fun y μ2 => ∃ b : Str, y = .str b ∧ SOk (Txt.lstripChars a b) ∧ Q (.str (Txt.lstripChars a b)) μ2
theorem de_lstrip (ho : DE X o Fo) (he : DE X e Fe) (hs : starEach [e] X.env = [(false, eval e X.env)] := by rfl) (hbase : attributeBase o "lstrip" X.env (eval o X.env) = eval o X.env := by rfl) (hline : (apos.endLine == pos.line) = true := by rfl) :
    DE X (.Call (.Attribute o "lstrip" apos) [e] [] pos) (dLstrip Fo Fe) := by
  refine weakE (pe_m1 F.slot_str_lstrip F.type_str_lstrip mt_lstripChars ho he hs hbase hline) fun σ H Q ⟨ρ, μ, Qd, s, h, kk⟩ => Lift.go (F := Fo) s h fun x μ1 v H1 ⟨a, ex, g1⟩ s1 n1 r1 => ?_
  subst ex
  cases r1 with
  | str _ ha =>
    refine ⟨⟨a, rfl⟩, Lift.go (F := Fe) s1 g1 fun y μ2 v2 H2 ⟨b, ey, so, g⟩ s2 n2 r2 => ?_⟩
    subst ey
    cases r2
    exact ⟨a, b, rfl, rfl, ha.1, kk _ μ2 _ H2 g (n1.trans n2) (.str _ so)⟩
end
end DL
end

-- part DL13
section
/-! range with the step -1, a text times an int, int(text), at the data layer -/
namespace DL
open PySem L2
section
variable {K : PySem.W.Frag}
/-- i, i - 1, .. down to j + 1 -/
def dwnD (i : Int) (n : Nat) : List D := (List.range n).map fun (k : Nat) => .int (i + (k : Nat) * (-1))
theorem yields_c {H : Hp} {μ : Mu} {lo : Int} {n : Nat} (hz : n ≤ sizeLine) : Yields K (Itc lo (-1) n) H μ (dwnD lo n) := ⟨by simpa [dwnD] using hz, fun H' μ' m i => by
  refine ⟨fun hi => ?_, fun d hd => ?_⟩
  · show n ≤ i
    simpa [dwnD] using hi
  · have hi : i < n := by
      have := (List.getElem?_eq_some_iff.mp hd).1
      simpa [dwnD] using this
    refine ⟨hi, fun x H2 ⟨e, y⟩ => ?_⟩
    subst e; subst y
    have : d = .int (lo + (i : Nat) * (-1)) := by
      unfold dwnD at hd
      rw [List.getElem?_map, List.getElem?_range hi] at hd
      exact (Option.some.inj hd).symm
    subst this
    exact ⟨Nx.refl m.wd, .int _⟩⟩
end
def iRg3 (A : TF (List D)) : TF (List D) := fun ρ μ Q => A ρ μ fun ds μ1 => ∃ i j : Int, ds = [.int i, .int j, .int (-1)] ∧ smI i ∧ smI j ∧ Q (dwnD i (i - j).toNat) μ1
theorem rp3 {K : PySem.W.Frag} {G : Hp} {vs : List V} {d e f : D} (r : RpAll K G vs [d, e, f]) : ∃ v u t, vs = [v, u, t] ∧ Rp K G v d ∧ Rp K G u e ∧ Rp K G t f := by
  cases r with
  | cons r1 r =>
    obtain ⟨u, t, rfl, r2, r3⟩ := rp2 r
    exact ⟨_, u, t, rfl, r1, r2, r3⟩
section
variable {X : Cx} {tg : Expr}
theorem di_rg3 {a b c : Expr} {A : TF (List D)} {p pos : Pos} (hg : Gl X "range") (hm : X.mg "range" = none) (ha : DA X [a, b, c] A) (hs : starEach [a, b, c] X.env = (false, eval a X.env) :: starEach [b, c] X.env := by rfl) (hpl : (backTo pos (starEach [b, c] X.env)).any (·.1) = false := by rfl) :
    DI X tg (.Call (.Name "range" p) [a, b, c] [] pos) (iRg3 A) :=
  weakI (pi_range3 hg hm ha hs hpl) fun σ H R ⟨ρ, μ, Qd, s, hf, k⟩ => Lift.go s hf fun ds μ1 vs H1 ⟨i, j, e, h1, h2, g1⟩ s1 n1 r1 => by
    subst e
    obtain ⟨v, u, t, rfl, r, r', r''⟩ := rp3 r1
    cases r; cases r'; cases r''
    exact ⟨i, j, -1, _, rfl, RgC.neg h1.a.1 h1.a.2 h2.a.1 h2.a.2, k _ μ1 _ H1 g1 n1 (yields_c (h2.z2 h1))⟩
/-- a text of one sign, times an int -/
def fMulS : F2 := fun _ x y P => match x, y with
  | .str a, .int n => a.length = 1 ∧ 0 ≤ n ∧ n ≤ 1000 ∧ SOk ⟨(List.replicate n.toNat (a.cps.getD 0 0)).toArray⟩ ∧ P (.str ⟨(List.replicate n.toNat (a.cps.getD 0 0)).toArray⟩)
  | _, _ => False
def rMulS : R2 := fun x y H Q => ∃ (a : Str) (n : Int), x = .str a ∧ y = .int n ∧ a.length = 1 ∧ 0 ≤ n ∧ n ≤ 1000 ∧ Q (.str ⟨(List.replicate n.toNat (a.cps.getD 0 0)).toArray⟩) H
theorem foldl_rep (c : Nat) : ∀ (n : Nat) (acc : Array Nat), (List.replicate n #[c]).foldl (· ++ ·) acc = acc ++ (List.replicate n c).toArray
  | 0, acc => by simp
  | n + 1, acc => by
    rw [List.replicate_succ, List.foldl_cons, foldl_rep c n]
    apply Array.toList_inj.mp
    simp [List.replicate_succ]
theorem op_mulS : OpR X (binaryOp .Mult) rMulS := by
  intro pins s σ H x y v u Q I rx ry h
  obtain ⟨a, n, rfl, rfl, ha, h0, h1, q⟩ := h
  obtain ⟨t, rfl⟩ := rx
  obtain ⟨t', rfl⟩ := ry
  have e : a.cps = #[a.cps.getD 0 0] := by
    have hs : a.cps.size = 1 := ha
    apply Array.ext
    · simpa using hs
    · intro i h2 h3
      have : i = 0 := by simp at h3; exact h3
      subst this
      simp [Array.getD, hs]
  have hz : a.length * n.toNat ≤ 1000 := by rw [ha]; omega
  refine P.mul_str (by have h2 : ¬ n < -(2 ^ 63 : Int) := by omega
                       have h3 : ¬ n ≥ 2 ^ 63 := by omega
                       rw [decide_eq_false h2, decide_eq_false h3]; rfl) (fun hn _ => ?_) (fun _ _ => ?_) ?_
  · rw [ha]
    have : (1 : Int) ≤ (2 ^ 63 - 1) / n := by
      rw [Int.le_ediv_iff_mul_le (by omega)]; omega
    omega
  · unfold Builtin.Str.tooLong
    exact decide_eq_false (Nat.not_lt.mpr (Nat.le_trans hz (by decide)))
  · by_cases hn : n < 1
    · have hn0 : n = 0 := by omega
      subst hn0
      rw [if_pos (by decide)]
      exact ⟨by decide, .str _, H, I.tok _, ⟨_, rfl⟩, q⟩
    · rw [if_neg hn]
      by_cases h2 : (n == 1 || a.length == 0) = true
      · rw [if_pos h2]
        have hn1 : n = 1 := by
          rcases Bool.or_eq_true _ _ ▸ h2 with h | h
          · exact eq_of_beq h
          · rw [ha] at h; cases h
        subst hn1
        have e3 : (⟨(List.replicate (1 : Int).toNat (a.cps.getD 0 0)).toArray⟩ : Str) = a := by
          obtain ⟨b⟩ := a
          exact congrArg Str.mk e.symm
        rw [e3] at q
        exact ⟨.str a, H, I, ⟨_, rfl⟩, q⟩
      · rw [if_neg h2]
        have e3 : (⟨(List.replicate n.toNat a.cps).foldl (· ++ ·) #[]⟩ : Str) = ⟨(List.replicate n.toNat (a.cps.getD 0 0)).toArray⟩ := by
          rw [e, foldl_rep]
          simp
        rw [e3]
        exact ⟨Nat.le_trans (by show (List.replicate n.toNat (a.cps.getD 0 0)).toArray.size ≤ 1000; rw [List.size_toArray, List.length_replicate]; omega) (by decide : 1000 ≤ sizeLine), .str _, H, I.tok _, ⟨_, rfl⟩, q⟩
theorem od_mulS {K : PySem.W.Frag} : OpD K rMulS fMulS := by
  intro x y vx vy H μ P Q w rx ry q k
  cases rx <;> cases ry <;> try exact q.elim
  rename_i a ha n
  exact ⟨a, n, rfl, rfl, q.1, q.2.1, q.2.2.1, k _ _ H q.2.2.2.2 (Nx.refl w) (.str _ q.2.2.2.1)⟩
/-- int(x), an int or a text -/
def fIntS : FB := fun _ ds P => match ds with
  | [.str a] => ∃ n, PySem.intText? a = some n ∧ a.length ≤ 640 ∧ P (.int n)
  | _ => False
theorem call_intS : CallR X (.type "int") (fun xs H Q => ∃ a n, xs = [.str a] ∧ PySem.intText? a = some n ∧ a.length ≤ 640 ∧ Q (.int n) H) := by
  intro pins s σ H xs us Q I r h
  obtain ⟨a, n, rfl, hn, hl, q⟩ := h
  obtain ⟨u, rfl, r1⟩ := vals1 r
  obtain ⟨t, rfl⟩ := r1
  exact PySem.W.KIN.call_text hn hl ⟨.int n, H, I.tok _, ⟨_, rfl⟩, q⟩
theorem cd_intS {K : PySem.W.Frag} : CallD K (fun xs H Q => ∃ a n, xs = [.str a] ∧ PySem.intText? a = some n ∧ a.length ≤ 640 ∧ Q (.int n) H) fIntS := by
  intro ds vs H μ P Q w r q k
  unfold fIntS at q
  split at q
  · obtain ⟨v, rfl, r1⟩ := rp1 r
    cases r1
    obtain ⟨n, hn, hl, q⟩ := q
    exact ⟨_, n, rfl, hn, hl, k _ _ H q (Nx.refl w) (.int n)⟩
  · exact q.elim
end
end DL
namespace DL
open PySem L2
section
variable {X : Cx} {pos : Pos}
theorem chn_go {K : PySem.W.Frag} {r r' : R2} {f f' : F2} {Fa Fb Fc : TF D} {σ : L2.St} {H : Hp} {Q : VK} (hf : OpD K r f) (hf' : OpD K r' f') (h : tD K (dChn f f' Fa Fb Fc) σ H Q) : tChain r r' (tD K Fa) (tD K Fb) (tD K Fc) σ H Q := by
  obtain ⟨ρ, μ, Qd, s, g, k⟩ := h
  refine Lift.go s g fun x μ1 vx H1 g1 s1 n1 r1 => Lift.go s1 g1 fun y μ2 vy H2 g2 s2 n2 r2 => hf x y vx vy H2 μ2 _ _ s2.wd (r1.mono n2.ext) r2 g2 fun z vz H3 ⟨b, e, g3⟩ n3 r3 => ?_
  subst e
  cases r3
  have s3 := s2.next n3
  have n123 := (n1.trans n2).trans n3
  refine ⟨b, rfl, ?_⟩
  cases b with
  | false => exact k _ μ2 _ H3 g3 n123 (.bl false)
  | true => exact Lift.go s3 g3 fun w' μ4 vw H4 g4 s4 n4 r4 => hf' y w' vy vw H4 μ4 _ _ s4.wd (r2.mono (n3.trans n4).ext) r4 g4 fun z vz H5 p n5 r5 => k z μ4 vz H5 p ((n123.trans n4).trans n5) r5
theorem dt_chain {op op' : CmpOp} {r r' : R2} {f f' : F2} {a b c : Expr} {Fa Fb Fc : TF D} (ho : OpR X (compareOp op) r) (ho' : OpR X (compareOp op') r') (hf : OpD X.K r f) (hf' : OpD X.K r' f') (ha : DE X a Fa) (hb : DE X b Fb) (hc : DE X c Fc) (hm : lastMarks [op, op'] [b, c] = false := by rfl) :
    DT X (.Compare a [op, op'] [b, c] pos) (dTest (dChn f f' Fa Fb Fc)) :=
  weakT (pt_chain ho ho' ha hb hc hm) fun σ H Q ⟨ρ, μ, Qd, s, hh, k⟩ => chn_go hf hf' ⟨ρ, μ, _, s, hh, fun d μ1 v H1 ⟨c, e, g⟩ n r => by subst e; cases r; exact ⟨c, rfl, k c μ1 c H1 g n rfl⟩⟩
end
end DL
end

-- part A0
section
namespace K41
open PySem L2 DL
def topS (i : Nat) : Stmt := PySem.Challenge.pw_suresnap_k41_news_is_read_and_printed.main.body.getD i (.Pass ⟨0, 0, 0, 0⟩)
abbrev s__law_draw : Stmt := topS 33
theorem sc__law_draw : FnScope ["script"] ["script"] (defScope s__law_draw) := ⟨rfl, rfl, rfl, by decide +kernel, rfl, by decide +kernel, by decide +kernel⟩
abbrev s__law_commits : Stmt := topS 37
theorem sc__law_commits : FnScope ["shelf", "found", "mark", "k"] ["shelf"] (defScope s__law_commits) := ⟨rfl, rfl, rfl, by decide +kernel, rfl, by decide +kernel, by decide +kernel⟩
abbrev s__law_next : Stmt := topS 34
theorem sc__law_next : FnScope ["draw", "many", "found", "cell"] ["draw", "many"] (defScope s__law_next) := ⟨rfl, rfl, rfl, by decide +kernel, rfl, by decide +kernel, by decide +kernel⟩
abbrev s__law_bent : Stmt := topS 39
theorem sc__law_bent : FnScope ["draw", "shelf", "piece", "form", "commits"] ["draw", "shelf", "piece"] (defScope s__law_bent) := ⟨rfl, rfl, rfl, by decide +kernel, rfl, by decide +kernel, by decide +kernel⟩
abbrev s__law_told : Stmt := topS 38
theorem sc__law_told : FnScope ["draw", "shelf", "table", "most", "form", "key", "version", "commit", "more", "other", "k"] ["draw", "shelf", "table", "most"] (defScope s__law_told) := ⟨rfl, rfl, rfl, by decide +kernel, rfl, by decide +kernel, by decide +kernel⟩
abbrev s__law_news : Stmt := topS 40
theorem sc__law_news : FnScope ["draw", "shelf", "most", "many", "bends", "commits", "table", "k", "news", "piece"] ["draw", "shelf", "most", "many", "bends"] (defScope s__law_news) := ⟨rfl, rfl, rfl, by decide +kernel, rfl, by decide +kernel, by decide +kernel⟩
abbrev s__law_number : Stmt := topS 42
theorem sc__law_number : FnScope ["draw", "text", "sign"] ["draw", "text"] (defScope s__law_number) := ⟨rfl, rfl, rfl, by decide +kernel, rfl, by decide +kernel, by decide +kernel⟩
abbrev s__law_print : Stmt := topS 41
theorem sc__law_print : FnScope ["piece", "form", "rest"] ["piece"] (defScope s__law_print) := ⟨rfl, rfl, rfl, by decide +kernel, rfl, by decide +kernel, by decide +kernel⟩
abbrev s__law_noise : Stmt := topS 43
theorem sc__law_noise : FnScope ["draw", "piece", "words", "k", "text", "word", "shown"] ["draw", "piece"] (defScope s__law_noise) := ⟨rfl, rfl, rfl, by decide +kernel, rfl, by decide +kernel, by decide +kernel⟩
abbrev s__law_odd : Stmt := topS 44
theorem sc__law_odd : FnScope ["draw", "piece", "value", "number"] ["draw", "piece"] (defScope s__law_odd) := ⟨rfl, rfl, rfl, by decide +kernel, rfl, by decide +kernel, by decide +kernel⟩
abbrev s__law_same : Stmt := topS 35
theorem sc__law_same : FnScope ["actual", "due", "k"] ["actual", "due"] (defScope s__law_same) := ⟨rfl, rfl, rfl, by decide +kernel, rfl, by decide +kernel, by decide +kernel⟩
abbrev s__law_shelf : Stmt := topS 36
theorem sc__law_shelf : FnScope ["draw"] ["draw"] (defScope s__law_shelf) := ⟨rfl, rfl, rfl, by decide +kernel, rfl, by decide +kernel, by decide +kernel⟩
abbrev s_Reader___init__ : Stmt := inClass (topS 18) 0
theorem sc_Reader___init__ : FnScope ["self", "tokens"] ["self", "tokens"] (defScope s_Reader___init__) := ⟨rfl, rfl, rfl, by decide +kernel, rfl, by decide +kernel, by decide +kernel⟩
abbrev s_Reader_sees : Stmt := inClass (topS 18) 1
theorem sc_Reader_sees : FnScope ["self", "kind"] ["self", "kind"] (defScope s_Reader_sees) := ⟨rfl, rfl, rfl, by decide +kernel, rfl, by decide +kernel, by decide +kernel⟩
abbrev s_Reader_take : Stmt := inClass (topS 18) 4
theorem sc_Reader_take : FnScope ["self", "fits", "kind", "word", "place"] ["self", "fits"] (defScope s_Reader_take) := ⟨rfl, rfl, rfl, by decide +kernel, rfl, by decide +kernel, by decide +kernel⟩
abbrev s_number_of : Stmt := topS 17
theorem sc_number_of : FnScope ["word", "digits", "size"] ["word"] (defScope s_number_of) := ⟨rfl, rfl, rfl, by decide +kernel, rfl, by decide +kernel, by decide +kernel⟩
abbrev s_Reader_take_number : Stmt := inClass (topS 18) 8
theorem sc_Reader_take_number : FnScope ["self", "least", "greatest", "place", "number"] ["self", "least", "greatest"] (defScope s_Reader_take_number) := ⟨rfl, rfl, rfl, by decide +kernel, rfl, by decide +kernel, by decide +kernel⟩
abbrev s_Reader_sees_word : Stmt := inClass (topS 18) 3
theorem sc_Reader_sees_word : FnScope ["self", "choices"] ["self", "choices"] (defScope s_Reader_sees_word) := ⟨rfl, rfl, rfl, by decide +kernel, rfl, by decide +kernel, by decide +kernel⟩
abbrev s_Reader_take_word : Stmt := inClass (topS 18) 5
theorem sc_Reader_take_word : FnScope ["self", "choices"] ["self", "choices"] (defScope s_Reader_take_word) := ⟨rfl, rfl, rfl, by decide +kernel, rfl, by decide +kernel, by decide +kernel⟩
abbrev s_Reader_sees_key : Stmt := inClass (topS 18) 2
theorem sc_Reader_sees_key : FnScope ["self"] ["self"] (defScope s_Reader_sees_key) := ⟨rfl, rfl, rfl, by decide +kernel, rfl, by decide +kernel, by decide +kernel⟩
abbrev s_Reader_take_key : Stmt := inClass (topS 18) 6
theorem sc_Reader_take_key : FnScope ["self"] ["self"] (defScope s_Reader_take_key) := ⟨rfl, rfl, rfl, by decide +kernel, rfl, by decide +kernel, by decide +kernel⟩
abbrev s_Reader_take_keys : Stmt := inClass (topS 18) 7
theorem sc_Reader_take_keys : FnScope ["self", "keys"] ["self"] (defScope s_Reader_take_keys) := ⟨rfl, rfl, rfl, by decide +kernel, rfl, by decide +kernel, by decide +kernel⟩
abbrev s_read_commit : Stmt := topS 24
theorem sc_read_commit : FnScope ["reader", "version", "word"] ["reader"] (defScope s_read_commit) := ⟨rfl, rfl, rfl, by decide +kernel, rfl, by decide +kernel, by decide +kernel⟩
abbrev s_read_times : Stmt := topS 25
theorem sc_read_times : FnScope ["reader", "version", "word", "key"] ["reader"] (defScope s_read_times) := ⟨rfl, rfl, rfl, by decide +kernel, rfl, by decide +kernel, by decide +kernel⟩
abbrev s_read_value : Stmt := topS 26
theorem sc_read_value : FnScope ["reader", "number", "key"] ["reader"] (defScope s_read_value) := ⟨rfl, rfl, rfl, by decide +kernel, rfl, by decide +kernel, by decide +kernel⟩
abbrev s_read_piece : Stmt := topS 27
theorem sc_read_piece : FnScope ["reader", "word"] ["reader"] (defScope s_read_piece) := ⟨rfl, rfl, rfl, by decide +kernel, rfl, by decide +kernel, by decide +kernel⟩
abbrev s_read_pieces : Stmt := topS 28
theorem sc_read_pieces : FnScope ["reader", "news"] ["reader"] (defScope s_read_pieces) := ⟨rfl, rfl, rfl, by decide +kernel, rfl, by decide +kernel, by decide +kernel⟩
abbrev s_end_of_run : Stmt := topS 13
theorem sc_end_of_run : FnScope ["text", "start", "alphabet", "end"] ["text", "start", "alphabet"] (defScope s_end_of_run) := ⟨rfl, rfl, rfl, by decide +kernel, rfl, by decide +kernel, by decide +kernel⟩
abbrev s_end_of_token : Stmt := topS 14
theorem sc_end_of_token : FnScope ["text", "start", "digits", "end"] ["text", "start"] (defScope s_end_of_token) := ⟨rfl, rfl, rfl, by decide +kernel, rfl, by decide +kernel, by decide +kernel⟩
abbrev s_kind_of : Stmt := topS 15
theorem sc_kind_of : FnScope ["text", "start"] ["text", "start"] (defScope s_kind_of) := ⟨rfl, rfl, rfl, by decide +kernel, rfl, by decide +kernel, by decide +kernel⟩
abbrev s_scan : Stmt := topS 16
theorem sc_scan : FnScope ["text", "tokens", "place", "end"] ["text"] (defScope s_scan) := ⟨rfl, rfl, rfl, by decide +kernel, rfl, by decide +kernel, by decide +kernel⟩
abbrev s_parse_news : Stmt := topS 29
theorem sc_parse_news : FnScope ["text", "tokens", "reader", "news"] ["text"] (defScope s_parse_news) := ⟨rfl, rfl, rfl, by decide +kernel, rfl, by decide +kernel, by decide +kernel⟩
abbrev s_print_piece : Stmt := topS 30
theorem sc_print_piece : FnScope ["piece", "word", "version", "keys", "what", "key", "number", "_", "value"] ["piece"] (defScope s_print_piece) := ⟨rfl, rfl, rfl, by decide +kernel, rfl, by decide +kernel, by decide +kernel⟩
abbrev s_print_news : Stmt := topS 31
theorem sc_print_news : FnScope ["news", "piece"] ["news"] (defScope s_print_news) := ⟨rfl, rfl, rfl, by decide +kernel, rfl, by decide +kernel, by decide +kernel⟩
abbrev s_law : Stmt := topS 45
theorem sc_law : FnScope ["script", "draw", "turn", "news", "piece", "text", "handed", "noisy"] ["script"] (defScope s_law) := ⟨rfl, rfl, rfl, by decide +kernel, rfl, by decide +kernel, by decide +kernel⟩
structure Tx (K : PySem.W.Frag) (mg : Str → Option Value) where
  C_Reader : Addr
  cl_Reader : Cls K C_Reader
  mC_Reader : mg "Reader" = some (.ref C_Reader)
  na_Reader_beyond : NoAttr K C_Reader "beyond"
  na_Reader_passed : NoAttr K C_Reader "passed"
  na_Reader_tokens : NoAttr K C_Reader "tokens"
  a__law_draw : Addr
  d__law_draw : FuncData
  F__law_draw : L2.Fun K "_law_draw" "_law_draw" s__law_draw a__law_draw d__law_draw
  m__law_draw : mg "_law_draw" = some (.ref a__law_draw)
  v__law_draw : Binds K d__law_draw ["script"] []
  k__law_draw : PySem.W.keepIn K (.ref a__law_draw) = true
  a__law_commits : Addr
  d__law_commits : FuncData
  F__law_commits : L2.Fun K "_law_commits" "_law_commits" s__law_commits a__law_commits d__law_commits
  m__law_commits : mg "_law_commits" = some (.ref a__law_commits)
  v__law_commits : Binds K d__law_commits ["shelf"] []
  k__law_commits : PySem.W.keepIn K (.ref a__law_commits) = true
  a__law_next : Addr
  d__law_next : FuncData
  F__law_next : L2.Fun K "_law_next" "_law_next" s__law_next a__law_next d__law_next
  m__law_next : mg "_law_next" = some (.ref a__law_next)
  v__law_next : Binds K d__law_next ["draw", "many"] []
  k__law_next : PySem.W.keepIn K (.ref a__law_next) = true
  a__law_bent : Addr
  d__law_bent : FuncData
  F__law_bent : L2.Fun K "_law_bent" "_law_bent" s__law_bent a__law_bent d__law_bent
  m__law_bent : mg "_law_bent" = some (.ref a__law_bent)
  v__law_bent : Binds K d__law_bent ["draw", "shelf", "piece"] []
  k__law_bent : PySem.W.keepIn K (.ref a__law_bent) = true
  a__law_told : Addr
  d__law_told : FuncData
  F__law_told : L2.Fun K "_law_told" "_law_told" s__law_told a__law_told d__law_told
  m__law_told : mg "_law_told" = some (.ref a__law_told)
  v__law_told : Binds K d__law_told ["draw", "shelf", "table", "most"] []
  k__law_told : PySem.W.keepIn K (.ref a__law_told) = true
  a__law_news : Addr
  d__law_news : FuncData
  F__law_news : L2.Fun K "_law_news" "_law_news" s__law_news a__law_news d__law_news
  m__law_news : mg "_law_news" = some (.ref a__law_news)
  v__law_news : Binds K d__law_news ["draw", "shelf", "most", "many", "bends"] []
  k__law_news : PySem.W.keepIn K (.ref a__law_news) = true
  a__law_number : Addr
  d__law_number : FuncData
  F__law_number : L2.Fun K "_law_number" "_law_number" s__law_number a__law_number d__law_number
  m__law_number : mg "_law_number" = some (.ref a__law_number)
  v__law_number : Binds K d__law_number ["draw", "text"] []
  k__law_number : PySem.W.keepIn K (.ref a__law_number) = true
  a__law_print : Addr
  d__law_print : FuncData
  F__law_print : L2.Fun K "_law_print" "_law_print" s__law_print a__law_print d__law_print
  m__law_print : mg "_law_print" = some (.ref a__law_print)
  v__law_print : Binds K d__law_print ["piece"] []
  k__law_print : PySem.W.keepIn K (.ref a__law_print) = true
  a__law_noise : Addr
  d__law_noise : FuncData
  F__law_noise : L2.Fun K "_law_noise" "_law_noise" s__law_noise a__law_noise d__law_noise
  m__law_noise : mg "_law_noise" = some (.ref a__law_noise)
  v__law_noise : Binds K d__law_noise ["draw", "piece"] []
  k__law_noise : PySem.W.keepIn K (.ref a__law_noise) = true
  a__law_odd : Addr
  d__law_odd : FuncData
  F__law_odd : L2.Fun K "_law_odd" "_law_odd" s__law_odd a__law_odd d__law_odd
  m__law_odd : mg "_law_odd" = some (.ref a__law_odd)
  v__law_odd : Binds K d__law_odd ["draw", "piece"] []
  k__law_odd : PySem.W.keepIn K (.ref a__law_odd) = true
  a__law_same : Addr
  d__law_same : FuncData
  F__law_same : L2.Fun K "_law_same" "_law_same" s__law_same a__law_same d__law_same
  m__law_same : mg "_law_same" = some (.ref a__law_same)
  v__law_same : Binds K d__law_same ["actual", "due"] []
  k__law_same : PySem.W.keepIn K (.ref a__law_same) = true
  a__law_shelf : Addr
  d__law_shelf : FuncData
  F__law_shelf : L2.Fun K "_law_shelf" "_law_shelf" s__law_shelf a__law_shelf d__law_shelf
  m__law_shelf : mg "_law_shelf" = some (.ref a__law_shelf)
  v__law_shelf : Binds K d__law_shelf ["draw"] []
  k__law_shelf : PySem.W.keepIn K (.ref a__law_shelf) = true
  a_Reader___init__ : Addr
  d_Reader___init__ : FuncData
  F_Reader___init__ : L2.Fun K "__init__" "Reader.__init__" s_Reader___init__ a_Reader___init__ d_Reader___init__
  v_Reader___init__ : Binds K d_Reader___init__ ["self", "tokens"] []
  mt_Reader___init__ : Meth K C_Reader "__init__" a_Reader___init__
  a_Reader_sees : Addr
  d_Reader_sees : FuncData
  F_Reader_sees : L2.Fun K "sees" "Reader.sees" s_Reader_sees a_Reader_sees d_Reader_sees
  v_Reader_sees : Binds K d_Reader_sees ["self", "kind"] []
  mt_Reader_sees : Meth K C_Reader "sees" a_Reader_sees
  a_Reader_take : Addr
  d_Reader_take : FuncData
  F_Reader_take : L2.Fun K "take" "Reader.take" s_Reader_take a_Reader_take d_Reader_take
  v_Reader_take : Binds K d_Reader_take ["self", "fits"] []
  mt_Reader_take : Meth K C_Reader "take" a_Reader_take
  a_number_of : Addr
  d_number_of : FuncData
  F_number_of : L2.Fun K "number_of" "number_of" s_number_of a_number_of d_number_of
  m_number_of : mg "number_of" = some (.ref a_number_of)
  v_number_of : Binds K d_number_of ["word"] []
  k_number_of : PySem.W.keepIn K (.ref a_number_of) = true
  a_Reader_take_number : Addr
  d_Reader_take_number : FuncData
  F_Reader_take_number : L2.Fun K "take_number" "Reader.take_number" s_Reader_take_number a_Reader_take_number d_Reader_take_number
  v_Reader_take_number : Binds K d_Reader_take_number ["self", "least", "greatest"] []
  mt_Reader_take_number : Meth K C_Reader "take_number" a_Reader_take_number
  a_Reader_sees_word : Addr
  d_Reader_sees_word : FuncData
  F_Reader_sees_word : L2.Fun K "sees_word" "Reader.sees_word" s_Reader_sees_word a_Reader_sees_word d_Reader_sees_word
  v_Reader_sees_word : Binds K d_Reader_sees_word ["self", "choices"] []
  mt_Reader_sees_word : Meth K C_Reader "sees_word" a_Reader_sees_word
  a_Reader_take_word : Addr
  d_Reader_take_word : FuncData
  F_Reader_take_word : L2.Fun K "take_word" "Reader.take_word" s_Reader_take_word a_Reader_take_word d_Reader_take_word
  v_Reader_take_word : Binds K d_Reader_take_word ["self", "choices"] []
  mt_Reader_take_word : Meth K C_Reader "take_word" a_Reader_take_word
  a_Reader_sees_key : Addr
  d_Reader_sees_key : FuncData
  F_Reader_sees_key : L2.Fun K "sees_key" "Reader.sees_key" s_Reader_sees_key a_Reader_sees_key d_Reader_sees_key
  v_Reader_sees_key : Binds K d_Reader_sees_key ["self"] []
  mt_Reader_sees_key : Meth K C_Reader "sees_key" a_Reader_sees_key
  a_Reader_take_key : Addr
  d_Reader_take_key : FuncData
  F_Reader_take_key : L2.Fun K "take_key" "Reader.take_key" s_Reader_take_key a_Reader_take_key d_Reader_take_key
  v_Reader_take_key : Binds K d_Reader_take_key ["self"] []
  mt_Reader_take_key : Meth K C_Reader "take_key" a_Reader_take_key
  a_Reader_take_keys : Addr
  d_Reader_take_keys : FuncData
  F_Reader_take_keys : L2.Fun K "take_keys" "Reader.take_keys" s_Reader_take_keys a_Reader_take_keys d_Reader_take_keys
  v_Reader_take_keys : Binds K d_Reader_take_keys ["self"] []
  mt_Reader_take_keys : Meth K C_Reader "take_keys" a_Reader_take_keys
  a_read_commit : Addr
  d_read_commit : FuncData
  F_read_commit : L2.Fun K "read_commit" "read_commit" s_read_commit a_read_commit d_read_commit
  m_read_commit : mg "read_commit" = some (.ref a_read_commit)
  v_read_commit : Binds K d_read_commit ["reader"] []
  k_read_commit : PySem.W.keepIn K (.ref a_read_commit) = true
  a_read_times : Addr
  d_read_times : FuncData
  F_read_times : L2.Fun K "read_times" "read_times" s_read_times a_read_times d_read_times
  m_read_times : mg "read_times" = some (.ref a_read_times)
  v_read_times : Binds K d_read_times ["reader"] []
  k_read_times : PySem.W.keepIn K (.ref a_read_times) = true
  a_read_value : Addr
  d_read_value : FuncData
  F_read_value : L2.Fun K "read_value" "read_value" s_read_value a_read_value d_read_value
  m_read_value : mg "read_value" = some (.ref a_read_value)
  v_read_value : Binds K d_read_value ["reader"] []
  k_read_value : PySem.W.keepIn K (.ref a_read_value) = true
  a_read_piece : Addr
  d_read_piece : FuncData
  F_read_piece : L2.Fun K "read_piece" "read_piece" s_read_piece a_read_piece d_read_piece
  m_read_piece : mg "read_piece" = some (.ref a_read_piece)
  v_read_piece : Binds K d_read_piece ["reader"] []
  k_read_piece : PySem.W.keepIn K (.ref a_read_piece) = true
  a_read_pieces : Addr
  d_read_pieces : FuncData
  F_read_pieces : L2.Fun K "read_pieces" "read_pieces" s_read_pieces a_read_pieces d_read_pieces
  m_read_pieces : mg "read_pieces" = some (.ref a_read_pieces)
  v_read_pieces : Binds K d_read_pieces ["reader"] []
  k_read_pieces : PySem.W.keepIn K (.ref a_read_pieces) = true
  a_end_of_run : Addr
  d_end_of_run : FuncData
  F_end_of_run : L2.Fun K "end_of_run" "end_of_run" s_end_of_run a_end_of_run d_end_of_run
  m_end_of_run : mg "end_of_run" = some (.ref a_end_of_run)
  v_end_of_run : Binds K d_end_of_run ["text", "start", "alphabet"] []
  k_end_of_run : PySem.W.keepIn K (.ref a_end_of_run) = true
  a_end_of_token : Addr
  d_end_of_token : FuncData
  F_end_of_token : L2.Fun K "end_of_token" "end_of_token" s_end_of_token a_end_of_token d_end_of_token
  m_end_of_token : mg "end_of_token" = some (.ref a_end_of_token)
  v_end_of_token : Binds K d_end_of_token ["text", "start"] []
  k_end_of_token : PySem.W.keepIn K (.ref a_end_of_token) = true
  a_kind_of : Addr
  d_kind_of : FuncData
  F_kind_of : L2.Fun K "kind_of" "kind_of" s_kind_of a_kind_of d_kind_of
  m_kind_of : mg "kind_of" = some (.ref a_kind_of)
  v_kind_of : Binds K d_kind_of ["text", "start"] []
  k_kind_of : PySem.W.keepIn K (.ref a_kind_of) = true
  a_scan : Addr
  d_scan : FuncData
  F_scan : L2.Fun K "scan" "scan" s_scan a_scan d_scan
  m_scan : mg "scan" = some (.ref a_scan)
  v_scan : Binds K d_scan ["text"] []
  k_scan : PySem.W.keepIn K (.ref a_scan) = true
  a_parse_news : Addr
  d_parse_news : FuncData
  F_parse_news : L2.Fun K "parse_news" "parse_news" s_parse_news a_parse_news d_parse_news
  m_parse_news : mg "parse_news" = some (.ref a_parse_news)
  v_parse_news : Binds K d_parse_news ["text"] []
  k_parse_news : PySem.W.keepIn K (.ref a_parse_news) = true
  a_print_piece : Addr
  d_print_piece : FuncData
  F_print_piece : L2.Fun K "print_piece" "print_piece" s_print_piece a_print_piece d_print_piece
  m_print_piece : mg "print_piece" = some (.ref a_print_piece)
  v_print_piece : Binds K d_print_piece ["piece"] []
  k_print_piece : PySem.W.keepIn K (.ref a_print_piece) = true
  a_print_news : Addr
  d_print_news : FuncData
  F_print_news : L2.Fun K "print_news" "print_news" s_print_news a_print_news d_print_news
  m_print_news : mg "print_news" = some (.ref a_print_news)
  v_print_news : Binds K d_print_news ["news"] []
  k_print_news : PySem.W.keepIn K (.ref a_print_news) = true
  a_law : Addr
  d_law : FuncData
  F_law : L2.Fun K "law" "law" s_law a_law d_law
  m_law : mg "law" = some (.ref a_law)
  v_law : Binds K d_law ["script"] []
  k_law : PySem.W.keepIn K (.ref a_law) = true
  mk_Reader : Mk K C_Reader a_Reader___init__
  b_abs : mg "abs" = none
  b_all : mg "all" = none
  b_bool : mg "bool" = none
  b_int : mg "int" = none
  b_isinstance : mg "isinstance" = none
  b_len : mg "len" = none
  b_list : mg "list" = none
  b_max : mg "max" = none
  b_range : mg "range" = none
  b_set : mg "set" = none
  b_sorted : mg "sorted" = none
  b_str : mg "str" = none
  b_tuple : mg "tuple" = none
  t_BLANKS : Tok
  g_BLANKS : mg "BLANKS" = some (.str " \n" t_BLANKS)
  t_DIGITS : Tok
  g_DIGITS : mg "DIGITS" = some (.str "0123456789" t_DIGITS)
  t_END : Tok
  g_END : mg "END" = some (.str "end" t_END)
  t_FARTHEST_VALUE : Tok
  g_FARTHEST_VALUE : mg "FARTHEST_VALUE" = some (.int 1000000 t_FARTHEST_VALUE)
  t_GLUED : Tok
  g_GLUED : mg "GLUED" = some (.str "glued" t_GLUED)
  t_LAST_VERSION : Tok
  g_LAST_VERSION : mg "LAST_VERSION" = some (.int 20 t_LAST_VERSION)
  t_LETTERS : Tok
  g_LETTERS : mg "LETTERS" = some (.str "abcdefghijklmnopqrstuvwxyz" t_LETTERS)
  t_LONGEST_KEY : Tok
  g_LONGEST_KEY : mg "LONGEST_KEY" = some (.int 8 t_LONGEST_KEY)
  t_MOST_PIECES : Tok
  g_MOST_PIECES : mg "MOST_PIECES" = some (.int 40 t_MOST_PIECES)
  t_MOST_WRITES : Tok
  g_MOST_WRITES : mg "MOST_WRITES" = some (.int 20 t_MOST_WRITES)
  t_NUMBER : Tok
  g_NUMBER : mg "NUMBER" = some (.str "number" t_NUMBER)
  t_SEPARATOR : Tok
  g_SEPARATOR : mg "SEPARATOR" = some (.str "separator" t_SEPARATOR)
  t_WORD : Tok
  g_WORD : mg "WORD" = some (.str "word" t_WORD)
/-! ### signs and tokens -/
def isL (c : Nat) : Bool := decide (97 ≤ c) && decide (c ≤ 122)
def isD (c : Nat) : Bool := decide (48 ≤ c) && decide (c ≤ 57)
def isB (c : Nat) : Bool := decide (c = 32) || decide (c = 10)
theorem in_letters (c : Nat) : decide (c ∈ ("abcdefghijklmnopqrstuvwxyz" : Str).cps.toList) = isL c := by
  have e : ("abcdefghijklmnopqrstuvwxyz" : Str).cps.toList = List.range' 97 26 := by decide +kernel
  rw [e, Bool.eq_iff_iff]
  simp [isL, List.mem_range'_1]
  omega
theorem in_digits (c : Nat) : decide (c ∈ ("0123456789" : Str).cps.toList) = isD c := by
  have e : ("0123456789" : Str).cps.toList = List.range' 48 10 := by decide +kernel
  rw [e, Bool.eq_iff_iff]
  simp [isD, List.mem_range'_1]
  omega
theorem in_blanks (c : Nat) : decide (c ∈ (" \n" : Str).cps.toList) = isB c := by
  have e : (" \n" : Str).cps.toList = [32, 10] := by decide +kernel
  rw [e, Bool.eq_iff_iff]
  simp [isB]
theorem in_sign (t : Str) (c : Nat) : (!(Builtin.Str.occurrences t ⟨#[c]⟩ 0 t.length 1).isEmpty) = decide (c ∈ t.cps.toList) := StrLaws.found_one t c
def run (p : Nat → Bool) : List Nat → Nat
  | [] => 0
  | c :: l => if p c = true then run p l + 1 else 0
theorem run_le (p : Nat → Bool) : ∀ l, run p l ≤ l.length
  | [] => Nat.le_refl _
  | c :: l => by unfold run; split <;> simp <;> exact run_le p l
def tokLen : List Nat → Nat
  | [] => 0
  | c :: l => if c = 59 then 1 else if isL c = true then run isL (c :: l) else if c = 45 then (if run isD l = 0 then 0 else run isD l + 1) else run isD (c :: l)
def kindOf (glued : Bool) (c : Nat) : Str := if c = 59 then "separator" else if glued = true then "glued" else if isL c = true then "word" else "number"
def alnum (c : Nat) : Bool := isL c || isD c
structure Tk where
  k : Str
  t : List Nat
  p : Nat
def eTk (t : Tk) : D := .tup [.str t.k, .str ⟨t.t.toArray⟩, .int t.p]
/-- the tokens of a text from place p on; b: whether the sign ahead is a letter or a digit -/
inductive Lay : Bool → Nat → List Nat → List Tk → Prop
  | nil {b p} : Lay b p [] [⟨"end", [], p⟩]
  | blank {b p c l ts} (h : isB c = true) (r : Lay false (p + 1) l ts) : Lay b p (c :: l) ts
  | tok {b p c t l ts} (hb : isB c = false) (hn : tokLen (c :: t ++ l) = (c :: t).length) (r : Lay (alnum ((c :: t).getLast (by simp))) (p + (c :: t).length) l ts) : Lay b p (c :: t ++ l) (⟨kindOf b c, c :: t, p⟩ :: ts)
def C_end_of_run : CT := fun ds μ Q => match ds with
  | [.str t, .int i, .str al] => ∃ k : Nat, i = k ∧ k ≤ t.length ∧ Q (.int ((k + run (fun c => decide (c ∈ al.cps.toList)) (t.cps.toList.drop k) : Nat) : Int)) μ
  | _ => False
def C_end_of_token : CT := fun ds μ Q => match ds with
  | [.str t, .int i] => ∃ k : Nat, i = k ∧ k < t.length ∧ Q (.int ((k + tokLen (t.cps.toList.drop k) : Nat) : Int)) μ
  | _ => False
def C_kind_of : CT := fun ds μ Q => match ds with
  | [.str t, .int i] => ∃ (k : Nat) (c : Nat) (b : Bool), i = k ∧ t.cps.toList[k]? = some c ∧ (b = true ↔ ∃ j d, k = j + 1 ∧ t.cps.toList[j]? = some d ∧ alnum d = true) ∧ Q (.str (kindOf b c)) μ
  | _ => False
def C_scan : CT := fun ds μ Q => match ds with
  | [.str t] => ∃ ts, Lay false 0 t.cps.toList ts ∧ t.length ≤ 9000 ∧ Q (.lst (ts.map eTk)) μ
  | _ => False
end K41
end

-- part A1
section
local macro_rules | `(tactic| walk_at "dl") => `(tactic| simp only [DL.sRet, DL.dJoined, DL.dJs, DL.dFmt, DL.dFld, DL.dMeth, DL.dMake, DL.sFld, DL.sFldI, DL.sSeq, DL.sSet, DL.sIf, DL.sNext, DL.sNever, DL.sDrop, DL.sAsg, DL.sRetN, DL.dVar, DL.dC, DL.dOp, DL.dTest, DL.dAnd, DL.dOr, DL.dNot, DL.dTru, DL.dAndV, DL.dOrV, DL.dNotV, DL.dIf, DL.aNil, DL.aCons, DL.dTup, DL.dLst, DL.dLstM, DL.dCall, DL.dFrz, DL.dB, DL.dNeg, DL.dSl, DL.oNone, DL.oSome, DL.dChn, DL.gN, DL.gT, DL.setAll,
  DL.ix_l, DL.ix_t, DL.ix_s, DL.ix_p, DL.add_i, DL.add_s, DL.add_l, DL.add_t, DL.mul_i, DL.mul_b, DL.sub_i, DL.fdiv_i, DL.mod_i, DL.pow_i, DL.shl_i, DL.shr_i, DL.and_i, DL.lt_i, DL.le_i, DL.gt_i, DL.ge_i, DL.le_s, DL.in_t, DL.in_l, DL.in_s, DL.len_l, DL.len_t, DL.len_s, DL.len_p, DL.list_l, DL.list_t, DL.list_s, DL.list_p, DL.tuple_l, DL.tuple_t, DL.int_i, DL.int_b, DL.abs_i, DL.max_i, DL.min_i, DL.all_l, DL.any_l, DL.isi_1, DL.isi_n, DL.sl_l, DL.sl_t, DL.sl_s, DL.neg_i, DL.isN_i, DL.notN_i, DL.eq_x, DL.ne_x,
  DL.w_wrote_many, DL.w_wrote_many_b, DL.w_wrote_among, DL.w_wrote_among_b, DL.w_wrote_did, DL.w_wrote_did_b, DL.w_wrote_times, DL.w_wrote_times_b, DL.w_wrote_value, DL.w_wrote_value_b, DL.w_wrote_head, DL.w_wrote_head_b, DL.w_many_wrote, DL.w_many_wrote_b, DL.w_many_among, DL.w_many_among_b, DL.w_many_did, DL.w_many_did_b, DL.w_many_times, DL.w_many_times_b, DL.w_many_value, DL.w_many_value_b, DL.w_many_head, DL.w_many_head_b, DL.w_among_wrote, DL.w_among_wrote_b, DL.w_among_many, DL.w_among_many_b, DL.w_among_did, DL.w_among_did_b, DL.w_among_times, DL.w_among_times_b, DL.w_among_value, DL.w_among_value_b, DL.w_among_head, DL.w_among_head_b, DL.w_did_wrote, DL.w_did_wrote_b, DL.w_did_many, DL.w_did_many_b, DL.w_did_among, DL.w_did_among_b, DL.w_did_times, DL.w_did_times_b, DL.w_did_value, DL.w_did_value_b, DL.w_did_head, DL.w_did_head_b, DL.w_times_wrote, DL.w_times_wrote_b, DL.w_times_many, DL.w_times_many_b, DL.w_times_among, DL.w_times_among_b, DL.w_times_did, DL.w_times_did_b, DL.w_times_value, DL.w_times_value_b, DL.w_times_head, DL.w_times_head_b, DL.w_value_wrote, DL.w_value_wrote_b, DL.w_value_many, DL.w_value_many_b, DL.w_value_among, DL.w_value_among_b, DL.w_value_did, DL.w_value_did_b, DL.w_value_times, DL.w_value_times_b, DL.w_value_head, DL.w_value_head_b, DL.w_head_wrote, DL.w_head_wrote_b, DL.w_head_many, DL.w_head_many_b, DL.w_head_among, DL.w_head_among_b, DL.w_head_did, DL.w_head_did_b, DL.w_head_times, DL.w_head_times_b, DL.w_head_value, DL.w_head_value_b,
  DL.q_ss, DL.q_ii, DL.q_bb, DL.q_nn, DL.q_tt, DL.q_ll, DL.q_si, DL.q_sn, DL.q_st, DL.q_sl, DL.q_is, DL.q_in, DL.q_it, DL.q_il, DL.q_ns, DL.q_ni, DL.q_nt, DL.q_nl, DL.q_ts, DL.q_ti, DL.q_tn, DL.q_tl, DL.q_ls, DL.q_li, DL.q_ln, DL.q_lt, DL.qs_nil, DL.qs_cons, DL.qs_nc, DL.qs_cn, DL.p_t16, DL.p_l16, DL.p_t15, DL.p_l15, DL.p_t14, DL.p_l14, DL.p_t13, DL.p_l13, DL.p_t12, DL.p_l12, DL.p_s, DL.p_i, DL.p_b, DL.p_n, DL.ps_nil, DL.ps_cons, DL.t_b, DL.t_i, DL.t_l, DL.t_t, DL.t_n, DL.n_n, DL.n_i, DL.n_s, DL.n_t, DL.n_l, DL.n_b, DL.f_s, DL.f_i,
  Bool.false_and, Bool.and_false, DL.z0, DL.z1, DL.z2, DL.z3, DL.z4, DL.z5, DL.z6, DL.z12,
  DL.startD, DL.sFrz, DL.sApp, DL.yesD, DL.lcTurn, DL.wipeE, DL.at0, DL.at1, DL.at2, DL.at3, DL.at4, List.map_cons, List.map_nil, List.replicate_succ, List.replicate_zero, List.length_cons, List.length_nil, List.cons_append, List.nil_append, List.set_cons_zero, List.set_cons_succ, List.getElem?_cons_zero, List.getElem?_cons_succ, Option.some.injEq, exists_eq_left, exists_eq_left', exists_eq', exists_eq, true_and, and_true, decide_eq_true_eq, if_true, if_false, Bool.false_eq_true, reduceIte, Nat.reduceAdd, Nat.reduceSub, DL.D.bl.injEq, DL.D.int.injEq, DL.D.str.injEq, DL.D.tup.injEq, DL.D.lst.injEq, DL.D.ptr.injEq, Bool.not_true, Bool.not_false, beq_self_eq_true, List.all_cons, List.all_nil, List.any_cons, List.any_nil, Bool.and_true, Bool.true_and, Bool.or_false, Bool.false_or, Bool.or_true, Bool.true_or, Bool.false_xor, Bool.true_xor, beq_iff_eq, Bool.not_eq_true, Int.reduceEq, Int.reduceBEq, and_self])

namespace K41
open PySem L2 DL
theorem at_nat {l : List Nat} {k c : Nat} (h : l[k]? = some c) : atI l (k : Int) = some c := by
  have hk : k < l.length := (List.getElem?_eq_some_iff.mp h).1
  obtain ⟨x, h1, h2⟩ := atI_in (l := l) (i := (k : Int)) (by omega) (by omega)
  rw [Int.toNat_natCast, h] at h2
  cases h2
  exact h1
theorem drop_at {l : List Nat} {k c : Nat} (h : l[k]? = some c) : l.drop k = c :: l.drop (k + 1) := by
  obtain ⟨hk, e⟩ := List.getElem?_eq_some_iff.mp h
  rw [List.drop_eq_getElem_cons hk, e]
theorem len_cps (t : Str) : t.cps.toList.length = t.length := Array.length_toList
theorem blank_al {c : Nat} (h : isB c = true) : alnum c = false := by
  simp [isB] at h
  rcases h with rfl | rfl <;> rfl
theorem cut_signs (t : Str) (a n : Nat) : cutS t (some ((a : Nat) : Int)) (some ((a + n : Nat) : Int)) = ⟨((t.cps.toList.drop a).take n).toArray⟩ := by
  have hl : t.cps.toList.length = t.length := Array.length_toList
  unfold cutS
  rw [HT.sIx_nat, HT.sIx_nat]
  congr 2
  by_cases h : a ≤ t.length
  · rw [Nat.min_eq_left h, List.take_eq_take_iff, List.length_drop, hl]
    omega
  · rw [List.drop_eq_nil_of_le (by omega), List.drop_eq_nil_of_le (by omega)]
    simp
theorem tok_cons (c : Nat) (l : List Nat) : tokLen (c :: l) = if c = 59 then 1 else if isL c = true then run isL (c :: l) else if c = 45 then (if run isD l = 0 then 0 else run isD l + 1) else run isD (c :: l) := rfl
theorem semi (c : Nat) : ((⟨#[c]⟩ : Str) = (";" : Str)) = (c = 59) := by
  rw [show (";" : Str) = ⟨#[59]⟩ from rfl]; simp
theorem dash (c : Nat) : ((⟨#[c]⟩ : Str) = ("-" : Str)) = (c = 45) := by
  rw [show ("-" : Str) = ⟨#[45]⟩ from rfl]; simp
theorem in_al (c : Nat) : decide (c ∈ (("abcdefghijklmnopqrstuvwxyz" : Str) ++ ("0123456789" : Str)).cps.toList) = alnum c := by
  have e : (("abcdefghijklmnopqrstuvwxyz" : Str) ++ ("0123456789" : Str)).cps.toList = ("abcdefghijklmnopqrstuvwxyz" : Str).cps.toList ++ ("0123456789" : Str).cps.toList := by decide +kernel
  rw [e]
  unfold alnum
  rw [← in_letters, ← in_digits, Bool.eq_iff_iff]
  simp
theorem run_L : run (fun c => decide (c ∈ ("abcdefghijklmnopqrstuvwxyz" : Str).cps.toList)) = run isL := by rw [show (fun c => decide (c ∈ ("abcdefghijklmnopqrstuvwxyz" : Str).cps.toList)) = isL from funext in_letters]
theorem run_D : run (fun c => decide (c ∈ ("0123456789" : Str).cps.toList)) = run isD := by rw [show (fun c => decide (c ∈ ("0123456789" : Str).cps.toList)) = isD from funext in_digits]
section
variable {P : Program} {w : World} {K : PySem.W.Frag} {mg : Str → Option Value} {base : Heap}
theorem ok_end_of_run (T : Tx K mg) : FnOk P w K mg base CX0 1 T.a_end_of_run T.d_end_of_run ["text", "start", "alphabet"] (spD K C_end_of_run) :=
  DL.Fun.okD (N := ["text", "start", "alphabet", "end"]) T.F_end_of_run sc_end_of_run (fun cdv A outer s H E hr => 
      (dss_cons (ds_set 3 sc_end_of_run.nd (dv 1)) 
      (dss_cons (ds_while PassesOwn.never (dw_pt (dw_and (dt_cmp op_ltD od_lt (dv 3) (de_B L2.call_len cd_len (by rfl) T.b_len (by decide +kernel) (da_cons (dv 0) da_nil)) (nomark _)) (dw_and1 (dt_cmp op_inD2 od_in (de_ix ix_seq od_ix (dv 0) (dv 3) (fun _ _ => rfl)) (dv 2) (by rfl))))) 
      (dss_one (ds_augI 3 sc_end_of_run.nd de_int ip_add))) 
      (dss_one (ds_ret (dv 3))))))
    (by intro ds μ Q h; unfold C_end_of_run at h; split at h <;> first | rfl | exact h.elim) (by
  intro ds μ Q h
  unfold C_end_of_run at h
  split at h
  · rename_i ds' t i al
    obtain ⟨k, rfl, hk, hq⟩ := h
    (walk_at "dl")
    refine ⟨fun m ρ' μ' => ∃ e : Nat, ρ' = [some (.str t), some (.int k), some (.str al), some (.int e)] ∧ μ' = μ ∧ e ≤ t.length ∧ e + run (fun c => decide (c ∈ al.cps.toList)) (t.cps.toList.drop e) = k + run (fun c => decide (c ∈ al.cps.toList)) (t.cps.toList.drop k) ∧ m = t.length - e, ⟨_, k, rfl, rfl, hk, rfl, rfl⟩, ?_⟩
    rintro m ρ' μ' ⟨e, rfl, rfl, he, hr, rfl⟩
    (walk_at "dl")
    have hl := len_cps t
    by_cases h1 : e < t.length
    · rw [if_pos (by omega)]
      obtain ⟨c, hc⟩ : ∃ c, t.cps.toList[e]? = some c := ⟨_, List.getElem?_eq_getElem (by omega)⟩
      refine ⟨c, at_nat hc, ?_⟩
      rw [in_sign]
      rw [drop_at hc] at hr
      simp only [run] at hr
      by_cases h2 : c ∈ al.cps.toList
      · simp only [h2, decide_true, if_true] at hr ⊢
        unfold sAugI
        (walk_at "dl")
        exact ⟨t.length - (e + 1), by omega, e + 1, rfl, by omega, by omega, rfl⟩
      · simp only [h2, decide_false, Bool.false_eq_true, if_false] at hr ⊢
        rw [show k + run (fun c => decide (c ∈ al.cps.toList)) (t.cps.toList.drop k) = e by omega] at hq
        exact hq
    · rw [if_neg (by omega)]
      have hd : t.cps.toList.drop e = [] := List.drop_eq_nil_of_le (by omega)
      rw [hd] at hr
      simp only [run] at hr
      rw [show k + run (fun c => decide (c ∈ al.cps.toList)) (t.cps.toList.drop k) = e by omega] at hq
      exact hq
  · exact h.elim
)

theorem ok_end_of_token (T : Tx K mg) : FnOk P w K mg base CX0 2 T.a_end_of_token T.d_end_of_token ["text", "start"] (spD K C_end_of_token) :=
  DL.Fun.okD (N := ["text", "start", "digits", "end"]) T.F_end_of_token sc_end_of_token (fun cdv A outer s H E hr => 
      (dss_cons (ds_if (dt_cmp (op_eqD hr.units) od_eq (de_ix ix_seq od_ix (dv 0) (dv 1) (fun _ _ => rfl)) (de_str) (nomark _)) 
      (dss_one (ds_ret (de_op op_addD od_add (dv 1) de_int))) dss_nil) 
      (dss_cons (ds_if (dt_cmp op_inD2 od_in (de_ix ix_seq od_ix (dv 0) (dv 1) (fun _ _ => rfl)) (de_globS rfl T.g_LETTERS) (by rfl)) 
      (dss_one (ds_ret (de_call (ok_end_of_run T) (hr.mono (by decide)) (by rfl) T.m_end_of_run T.k_end_of_run T.v_end_of_run pass0 (da_cons (dv 0) (da_cons (dv 1) (da_cons (de_globS rfl T.g_LETTERS) da_nil)))))) dss_nil) 
      (dss_cons (ds_set 2 sc_end_of_token.nd (de_if (dt_cmp (op_eqD hr.units) od_eq (de_ix ix_seq od_ix (dv 0) (dv 1) (fun _ _ => rfl)) (de_str) (nomark _)) (de_op op_addD od_add (dv 1) de_int) (dv 1))) 
      (dss_cons (ds_set 3 sc_end_of_token.nd (de_call (ok_end_of_run T) (hr.mono (by decide)) (by rfl) T.m_end_of_run T.k_end_of_run T.v_end_of_run pass0 (da_cons (dv 0) (da_cons (dv 2) (da_cons (de_globS rfl T.g_DIGITS) da_nil))))) 
      (dss_one (ds_ret (de_if (dt_cmp op_gtD od_gt (dv 3) (dv 2) (nomark _)) (dv 3) (dv 1)))))))))
    (by intro ds μ Q h; unfold C_end_of_token at h; split at h <;> first | rfl | exact h.elim) (by
  intro ds μ Q h
  unfold C_end_of_token at h
  split at h
  · rename_i ds' t i
    obtain ⟨k, rfl, hk, hq⟩ := h
    have hl := len_cps t
    obtain ⟨c, hc⟩ : ∃ c, t.cps.toList[k]? = some c := ⟨_, List.getElem?_eq_getElem (by omega)⟩
    rw [drop_at hc] at hq
    (walk_at "dl")
    simp only [semi, dash, in_sign, in_letters]
    refine ⟨c, at_nat hc, ?_⟩
    rw [tok_cons] at hq
    by_cases h1 : c = 59
    · rw [if_pos h1] at hq ⊢
      exact hq
    · rw [if_neg h1] at hq ⊢
      refine ⟨c, at_nat hc, ?_⟩
      cases h2 : isL c with
      | true =>
        rw [if_pos h2] at hq
        rw [if_pos rfl]
        refine ⟨k, rfl, by omega, ?_⟩
        rw [run_L, drop_at hc]
        exact hq
      | false =>
        rw [if_neg (by rw [h2]; decide)] at hq
        rw [if_neg (by decide)]
        refine ⟨c, at_nat hc, ?_⟩
        by_cases h3 : c = 45
        · rw [if_pos h3] at hq ⊢
          refine ⟨k + 1, by omega, by omega, ?_⟩
          rw [run_D]
          (walk_at "dl")
          by_cases h4 : run isD (t.cps.toList.drop (k + 1)) = 0
          · rw [if_pos h4] at hq
            rw [if_neg (by omega)]
            exact hq
          · rw [if_neg h4] at hq
            rw [if_pos (by omega)]
            rw [show k + 1 + run isD (t.cps.toList.drop (k + 1)) = k + (run isD (t.cps.toList.drop (k + 1)) + 1) by omega]
            exact hq
        · rw [if_neg h3] at hq ⊢
          refine ⟨k, rfl, by omega, ?_⟩
          rw [run_D, drop_at hc]
          (walk_at "dl")
          by_cases h4 : run isD (c :: t.cps.toList.drop (k + 1)) = 0
          · rw [h4] at hq ⊢
            rw [if_neg (by omega)]
            exact hq
          · rw [if_pos (by omega)]
            exact hq
  · exact h.elim
)

theorem ok_kind_of (T : Tx K mg) : FnOk P w K mg base CX0 1 T.a_kind_of T.d_kind_of ["text", "start"] (spD K C_kind_of) :=
  DL.Fun.okD (N := ["text", "start"]) T.F_kind_of sc_kind_of (fun cdv A outer s H E hr => 
      (dss_cons (ds_if (dt_cmp (op_eqD hr.units) od_eq (de_ix ix_seq od_ix (dv 0) (dv 1) (fun _ _ => rfl)) (de_str) (nomark _)) 
      (dss_one (ds_ret (de_globS rfl T.g_SEPARATOR))) dss_nil) 
      (dss_cons (ds_if (dw_pt (dw_and (dt_cmp op_gtD od_gt (dv 1) de_int (nomark _)) (dw_and1 (dt_cmp op_inD2 od_in (de_ix ix_seq od_ix (dv 0) (de_op op_sub od_sub (dv 1) de_int) (fun _ _ => rfl)) (de_op op_addD od_add (de_globS rfl T.g_LETTERS) (de_globS rfl T.g_DIGITS)) (by rfl))))) 
      (dss_one (ds_ret (de_globS rfl T.g_GLUED))) dss_nil) 
      (dss_one (ds_ret (de_if (dt_cmp op_inD2 od_in (de_ix ix_seq od_ix (dv 0) (dv 1) (fun _ _ => rfl)) (de_globS rfl T.g_LETTERS) (by rfl)) (de_globS rfl T.g_WORD) (de_globS rfl T.g_NUMBER)))))))
    (by intro ds μ Q h; unfold C_kind_of at h; split at h <;> first | rfl | exact h.elim) (by
  intro ds μ Q h
  unfold C_kind_of at h
  split at h
  · rename_i ds' t i
    obtain ⟨k, c, b, rfl, hc, hb, hq⟩ := h
    (walk_at "dl")
    simp only [semi, in_sign, in_letters, in_al]
    refine ⟨c, at_nat hc, ?_⟩
    unfold kindOf at hq
    by_cases h1 : c = 59
    · rw [if_pos h1] at hq ⊢
      exact hq
    · rw [if_neg h1] at hq ⊢
      have tail : b = false → ∃ c, atI t.cps.toList ↑k = some c ∧ if isL c = true then Q (D.str (Str.ofString "word")) μ else Q (D.str (Str.ofString "number")) μ := fun hf => by
        rw [if_neg (by rw [hf]; decide)] at hq
        refine ⟨c, at_nat hc, ?_⟩
        cases h2 : isL c with
        | true => rw [if_pos h2] at hq; exact hq
        | false => rw [if_neg (by rw [h2]; decide)] at hq; exact hq
      by_cases h2 : 0 < k
      · rw [if_pos (by omega)]
        obtain ⟨d, hd⟩ : ∃ d, t.cps.toList[k - 1]? = some d := ⟨_, List.getElem?_eq_getElem (by have := (List.getElem?_eq_some_iff.mp hc).1; omega)⟩
        refine ⟨d, by rw [show ((k : Int) - 1) = ((k - 1 : Nat) : Int) by omega]; exact at_nat hd, by decide +kernel, ?_⟩
        cases h3 : alnum d with
        | true =>
          have : b = true := hb.mpr ⟨k - 1, d, by omega, hd, h3⟩
          rw [if_pos this] at hq
          exact hq
        | false =>
          refine tail ?_
          cases hbb : b with
          | false => rfl
          | true =>
            obtain ⟨j, d', e1, e2, e3⟩ := hb.mp hbb
            have : j = k - 1 := by omega
            subst this
            rw [hd] at e2; cases e2
            rw [h3] at e3; cases e3
      · rw [if_neg (by omega)]
        refine tail ?_
        cases hbb : b with
        | false => rfl
        | true =>
          obtain ⟨j, d', e1, e2, e3⟩ := hb.mp hbb
          omega
  · exact h.elim
)

theorem ok_scan (T : Tx K mg) : FnOk P w K mg base CX0 3 T.a_scan T.d_scan ["text"] (spD K C_scan) :=
  DL.Fun.okDf (N := ["text", "tokens", "place", "end"]) T.F_scan sc_scan (fun cdv A outer s H E hr => 
      (dss_cons (ds_set 1 sc_scan.nd (de_lstM da_nil)) 
      (dss_cons (ds_set 2 sc_scan.nd de_int) 
      (dss_cons (ds_while PassesOwn.never (dt_cmp op_ltD od_lt (dv 2) (de_B L2.call_len cd_len (by rfl) T.b_len (by decide +kernel) (da_cons (dv 0) da_nil)) (nomark _)) 
      (dss_cons (ds_if (dt_cmp op_inD2 od_in (de_ix ix_seq od_ix (dv 0) (dv 2) (fun _ _ => rfl)) (de_globS rfl T.g_BLANKS) (by rfl)) 
      (dss_cons (ds_augI 2 sc_scan.nd de_int ip_add) 
      (dss_one ds_continue)) dss_nil) 
      (dss_cons (ds_set 3 sc_scan.nd (de_call (ok_end_of_token T) (hr.mono (by decide)) (by rfl) T.m_end_of_token T.k_end_of_token T.v_end_of_token pass0 (da_cons (dv 0) (da_cons (dv 2) da_nil)))) 
      (dss_cons (ds_if (dt_cmp (op_eqD hr.units) od_eq (dv 3) (dv 2) (nomark _)) dss_never dss_nil) 
      (dss_cons (ds_app (dv 1) (de_tup (da_cons (de_call (ok_kind_of T) (hr.mono (by decide)) (by rfl) T.m_kind_of T.k_kind_of T.v_kind_of pass0 (da_cons (dv 0) (da_cons (dv 2) da_nil))) (da_cons (de_sl (dv 0) (do_some (dv 2)) (do_some (dv 3))) (da_cons (dv 2) da_nil))))) 
      (dss_one (ds_set 2 sc_scan.nd (dv 3)))))))) 
      (dss_cons (ds_app (dv 1) (de_tup (da_cons (de_globS rfl T.g_END) (da_cons (de_str) (da_cons (de_B L2.call_len cd_len (by rfl) T.b_len (by decide +kernel) (da_cons (dv 0) da_nil)) da_nil))))) 
      (dss_frz 1 (dss_one (ds_ret (dv 1)))))))))
    (by intro ds μ Q h; unfold C_scan at h; split at h <;> first | rfl | exact h.elim) (by
  intro ds μ Q h
  unfold C_scan at h
  split at h
  · rename_i ds' t
    obtain ⟨ts, hlay, hl, hq⟩ := h
    have hlc := len_cps t
    refine step_set (fun d μ' => ∃ p, d = .ptr p ∧ μ p = none ∧ μ' = μ.put p (.lst [])) (fun R hR => ?_) fun d μ' hS => ?_
    · (walk_at "dl")
      exact fun p hp => hR _ _ ⟨p, rfl, hp, rfl⟩
    obtain ⟨p, rfl, hp, rfl⟩ := hS
    show sSeq _ _ _ [some (.str t), some (.ptr p), none, none] _
    refine step_set (fun d μ' => d = .int ((0 : Nat) : Int) ∧ μ' = μ.put p (.lst [])) (fun R hR => ?_) fun d μ' hS => ?_
    · (walk_at "dl")
      exact hR _ _ ⟨rfl, rfl⟩
    obtain ⟨rfl, rfl⟩ := hS
    show sSeq _ _ _ [some (.str t), some (.ptr p), some (.int ((0 : Nat) : Int)), none] _
    refine step (fun ρ' μ' => ∃ (k : Nat) (x : Option D) (done : List Tk), ρ' = [some (.str t), some (.ptr p), some (.int k), x] ∧ μ' = μ.put p (.lst (done.map eTk)) ∧ done ++ [⟨"end", [], t.length⟩] = ts ∧ done.length ≤ t.length) (fun E' hE' => ?_) fun ρ' μ' hS => ?_
    · refine ⟨fun m ρ' μ' => ∃ (k : Nat) (x : Option D) (done : List Tk) (b : Bool) (rest : List Tk), ρ' = [some (.str t), some (.ptr p), some (.int k), x] ∧ μ' = μ.put p (.lst (done.map eTk)) ∧ k ≤ t.length ∧ Lay b k (t.cps.toList.drop k) rest ∧ done ++ rest = ts ∧ done.length ≤ k ∧
        (b = true ↔ ∃ j d, k = j + 1 ∧ t.cps.toList[j]? = some d ∧ alnum d = true) ∧ m = t.length - k, ⟨_, 0, _, [], false, ts, rfl, rfl, by omega, by simpa using hlay, rfl, by simp, ?_, rfl⟩, ?_⟩
      · simp
      rintro m ρ' μ' ⟨k, x, done, b, rest, rfl, rfl, hk, hly, hts, hdl, hb, rfl⟩
      (walk_at "dl")
      by_cases hlt : k < t.length
      · rw [if_pos (by omega)]
        obtain ⟨c, hc⟩ : ∃ c, t.cps.toList[k]? = some c := ⟨_, List.getElem?_eq_getElem (by omega)⟩
        refine ⟨c, at_nat hc, ?_⟩
        rw [in_sign, in_blanks]
        have e := drop_at hc
        rw [e] at hly
        generalize hL : c :: t.cps.toList.drop (k + 1) = L at hly
        cases hly with
        | nil => cases hL
        | blank h r =>
          injection hL with e1 e2
          subst e1; subst e2
          rw [if_pos h]
          unfold sAugI sCont
          (walk_at "dl")
          refine ⟨t.length - (k + 1), by omega, k + 1, _, done, false, _, rfl, rfl, by omega, r, hts, by omega, ?_, rfl⟩
          simp only [Bool.false_eq_true, false_iff]
          rintro ⟨j, d, e3, e4, e5⟩
          have : j = k := by omega
          subst this
          rw [hc] at e4; cases e4
          rw [blank_al h] at e5; cases e5
        | @tok b p' c' t' l' ts' hbk hn r =>
          have e1 : c = c' := by injection hL
          have e2 : t.cps.toList.drop (k + 1) = t' ++ l' := by injection hL
          subst e1
          have hlen := congrArg List.length e2
          rw [List.length_drop, List.length_append, hlc] at hlen
          rw [if_neg (by rw [hbk]; decide)]
          refine ⟨k, rfl, hlt, ?_⟩
          rw [e, e2, show c :: (t' ++ l') = c :: t' ++ l' from rfl, hn, List.length_cons]
          refine ⟨p_i, ?_⟩
          rw [q_ii, if_neg (by simp; omega)]
          have hcut : cutS t (some ((k : Nat) : Int)) (some ((k + (t'.length + 1) : Nat) : Int)) = ⟨(c :: t').toArray⟩ := by
            rw [cut_signs, e, e2, show c :: (t' ++ l') = (c :: t') ++ l' from rfl, List.take_left' (by rw [List.length_cons])]
          refine ⟨p, _, rfl, Mu.put_same, k, c, b, rfl, hc, hb, _, rfl, _, Mu.put_same, sz_small' (by rw [List.length_map]; omega), t.length - (k + (t'.length + 1)), by omega, k + (t'.length + 1), _, done ++ [⟨kindOf b c, c :: t', k⟩], alnum ((c :: t').getLast (by simp)), ts', rfl, ?_, by omega, ?_, ?_, by rw [List.length_append, List.length_singleton]; omega, ?_, rfl⟩
          · rw [Mu.put_put, hcut, List.map_append]; rfl
          · have e3 : t.cps.toList.drop (k + (t'.length + 1)) = l' := by
              rw [show k + (t'.length + 1) = (k + 1) + t'.length by omega, ← List.drop_drop, e2, List.drop_left' rfl]
            rw [e3]
            exact r
          · rw [← hts, List.append_assoc]; rfl
          · have e4 : t.cps.toList[k + t'.length]? = some ((c :: t').getLast (by simp)) := by
              have h1 : (t.cps.toList.drop k)[t'.length]? = some ((c :: t').getLast (by simp)) := by
                rw [e, e2, show c :: (t' ++ l') = (c :: t') ++ l' from rfl, List.getElem?_append_left (by simp), List.getLast_eq_getElem]
                simp
              rw [List.getElem?_drop] at h1
              exact h1
            constructor
            · intro h
              exact ⟨k + t'.length, _, by omega, e4, h⟩
            · rintro ⟨j, d, e5, e6, e7⟩
              have : j = k + t'.length := by omega
              subst this
              rw [e4] at e6; cases e6
              exact e7
      · rw [if_neg (by omega)]
        have hkl : k = t.length := by omega
        subst hkl
        rw [List.drop_eq_nil_of_le (by omega)] at hly
        generalize hL : ([] : List Nat) = L at hly
        cases hly with
        | nil => exact hE' _ _ ⟨_, x, done, rfl, rfl, hts, hdl⟩
        | blank h r => cases hL
        | tok hbk hn r => cases hL
    obtain ⟨k, x, done, rfl, rfl, hts, hdl⟩ := hS
    (walk_at "dl")
    refine ⟨p, _, rfl, Mu.put_same, _, Mu.put_same, sz_small' (by rw [List.length_map]; omega), p, _, rfl, Mu.put_same, μ, ?_, ?_⟩
    · rw [Mu.put_put, Mu.put_del hp]
      exact fun _ _ h => h
    · rw [← hts, List.map_append] at hq
      exact hq
  · exact h.elim
)

end
end K41
end

-- part A2
section
local macro_rules | `(tactic| walk_at "dl") => `(tactic| simp only [DL.sRet, DL.dJoined, DL.dJs, DL.dFmt, DL.dFld, DL.dMeth, DL.dMake, DL.sFld, DL.sFldI, DL.sSeq, DL.sSet, DL.sIf, DL.sNext, DL.sNever, DL.sDrop, DL.sAsg, DL.sRetN, DL.dVar, DL.dC, DL.dOp, DL.dTest, DL.dAnd, DL.dOr, DL.dNot, DL.dTru, DL.dAndV, DL.dOrV, DL.dNotV, DL.dIf, DL.aNil, DL.aCons, DL.dTup, DL.dLst, DL.dLstM, DL.dCall, DL.dFrz, DL.dB, DL.dNeg, DL.dSl, DL.oNone, DL.oSome, DL.dChn, DL.gN, DL.gT, DL.setAll,
  DL.ix_l, DL.ix_t, DL.ix_s, DL.ix_p, DL.add_i, DL.add_s, DL.add_l, DL.add_t, DL.mul_i, DL.mul_b, DL.sub_i, DL.fdiv_i, DL.mod_i, DL.pow_i, DL.shl_i, DL.shr_i, DL.and_i, DL.lt_i, DL.le_i, DL.gt_i, DL.ge_i, DL.le_s, DL.in_t, DL.in_l, DL.in_s, DL.len_l, DL.len_t, DL.len_s, DL.len_p, DL.list_l, DL.list_t, DL.list_s, DL.list_p, DL.tuple_l, DL.tuple_t, DL.int_i, DL.int_b, DL.abs_i, DL.max_i, DL.min_i, DL.all_l, DL.any_l, DL.isi_1, DL.isi_n, DL.sl_l, DL.sl_t, DL.sl_s, DL.neg_i, DL.isN_i, DL.notN_i, DL.eq_x, DL.ne_x,
  DL.w_wrote_many, DL.w_wrote_many_b, DL.w_wrote_among, DL.w_wrote_among_b, DL.w_wrote_did, DL.w_wrote_did_b, DL.w_wrote_times, DL.w_wrote_times_b, DL.w_wrote_value, DL.w_wrote_value_b, DL.w_wrote_head, DL.w_wrote_head_b, DL.w_many_wrote, DL.w_many_wrote_b, DL.w_many_among, DL.w_many_among_b, DL.w_many_did, DL.w_many_did_b, DL.w_many_times, DL.w_many_times_b, DL.w_many_value, DL.w_many_value_b, DL.w_many_head, DL.w_many_head_b, DL.w_among_wrote, DL.w_among_wrote_b, DL.w_among_many, DL.w_among_many_b, DL.w_among_did, DL.w_among_did_b, DL.w_among_times, DL.w_among_times_b, DL.w_among_value, DL.w_among_value_b, DL.w_among_head, DL.w_among_head_b, DL.w_did_wrote, DL.w_did_wrote_b, DL.w_did_many, DL.w_did_many_b, DL.w_did_among, DL.w_did_among_b, DL.w_did_times, DL.w_did_times_b, DL.w_did_value, DL.w_did_value_b, DL.w_did_head, DL.w_did_head_b, DL.w_times_wrote, DL.w_times_wrote_b, DL.w_times_many, DL.w_times_many_b, DL.w_times_among, DL.w_times_among_b, DL.w_times_did, DL.w_times_did_b, DL.w_times_value, DL.w_times_value_b, DL.w_times_head, DL.w_times_head_b, DL.w_value_wrote, DL.w_value_wrote_b, DL.w_value_many, DL.w_value_many_b, DL.w_value_among, DL.w_value_among_b, DL.w_value_did, DL.w_value_did_b, DL.w_value_times, DL.w_value_times_b, DL.w_value_head, DL.w_value_head_b, DL.w_head_wrote, DL.w_head_wrote_b, DL.w_head_many, DL.w_head_many_b, DL.w_head_among, DL.w_head_among_b, DL.w_head_did, DL.w_head_did_b, DL.w_head_times, DL.w_head_times_b, DL.w_head_value, DL.w_head_value_b,
  DL.q_ss, DL.q_ii, DL.q_bb, DL.q_nn, DL.q_tt, DL.q_ll, DL.q_si, DL.q_sn, DL.q_st, DL.q_sl, DL.q_is, DL.q_in, DL.q_it, DL.q_il, DL.q_ns, DL.q_ni, DL.q_nt, DL.q_nl, DL.q_ts, DL.q_ti, DL.q_tn, DL.q_tl, DL.q_ls, DL.q_li, DL.q_ln, DL.q_lt, DL.qs_nil, DL.qs_cons, DL.qs_nc, DL.qs_cn, DL.p_t16, DL.p_l16, DL.p_t15, DL.p_l15, DL.p_t14, DL.p_l14, DL.p_t13, DL.p_l13, DL.p_t12, DL.p_l12, DL.p_s, DL.p_i, DL.p_b, DL.p_n, DL.ps_nil, DL.ps_cons, DL.t_b, DL.t_i, DL.t_l, DL.t_t, DL.t_n, DL.n_n, DL.n_i, DL.n_s, DL.n_t, DL.n_l, DL.n_b, DL.f_s, DL.f_i,
  Bool.false_and, Bool.and_false, DL.z0, DL.z1, DL.z2, DL.z3, DL.z4, DL.z5, DL.z6, DL.z12,
  DL.startD, DL.sFrz, DL.sApp, DL.yesD, DL.lcTurn, DL.wipeE, DL.at0, DL.at1, DL.at2, DL.at3, DL.at4, List.map_cons, List.map_nil, List.replicate_succ, List.replicate_zero, List.length_cons, List.length_nil, List.cons_append, List.nil_append, List.set_cons_zero, List.set_cons_succ, List.getElem?_cons_zero, List.getElem?_cons_succ, Option.some.injEq, exists_eq_left, exists_eq_left', exists_eq', exists_eq, true_and, and_true, decide_eq_true_eq, if_true, if_false, Bool.false_eq_true, reduceIte, Nat.reduceAdd, Nat.reduceSub, DL.D.bl.injEq, DL.D.int.injEq, DL.D.str.injEq, DL.D.tup.injEq, DL.D.lst.injEq, DL.D.ptr.injEq, Bool.not_true, Bool.not_false, beq_self_eq_true, List.all_cons, List.all_nil, List.any_cons, List.any_nil, Bool.and_true, Bool.true_and, Bool.or_false, Bool.false_or, Bool.or_true, Bool.true_or, Bool.false_xor, Bool.true_xor, beq_iff_eq, Bool.not_eq_true, Int.reduceEq, Int.reduceBEq, and_self])

namespace K41
open PySem L2 DL
def flds (ts : List Tk) (i : Nat) : List (Str × D) := [("tokens", .lst (ts.map eTk)), ("passed", .int i), ("beyond", .non)]
theorem n_tt : (("passed" : Str) == "tokens") = false := by decide +kernel
theorem n_bt : (("beyond" : Str) == "tokens") = false := by decide +kernel
theorem n_bk : (("beyond" : Str) == "passed") = false := by decide +kernel
theorem l_tokens (ts : List Tk) (i : Nat) : (flds ts i).lookup ("tokens" : Str) = some (.lst (ts.map eTk)) := by
  unfold flds; rw [List.lookup_cons, beq_self_eq_true]
theorem l_passed (ts : List Tk) (i : Nat) : (flds ts i).lookup ("passed" : Str) = some (.int i) := by
  unfold flds; rw [List.lookup_cons, n_tt, List.lookup_cons, beq_self_eq_true]
theorem l_beyond (ts : List Tk) (i : Nat) : (flds ts i).lookup ("beyond" : Str) = some .non := by
  unfold flds; rw [List.lookup_cons, n_bt, List.lookup_cons, n_bk, List.lookup_cons, beq_self_eq_true]
theorem l_no {m : Str} (ts : List Tk) (i : Nat) (h1 : (m == "tokens") = false) (h2 : (m == "passed") = false) (h3 : (m == "beyond") = false) : (flds ts i).lookup m = none := by
  unfold flds; rw [List.lookup_cons, h1, List.lookup_cons, h2, List.lookup_cons, h3]; rfl
theorem put_passed (ts : List Tk) (i : Nat) : putD "passed" (.int ((i : Int) + 1)) (flds ts i) = flds ts (i + 1) := by
  unfold flds putD
  rw [if_neg (by decide +kernel)]
  unfold putD
  rw [if_pos rfl]
  rfl
theorem put_comm {μ : Mu} {a b : Addr} {o u : MO} (h : a ≠ b) : (μ.put a o).put b u = (μ.put b u).put a o := by
  funext c; unfold Mu.put
  by_cases e : c = b
  · subst e; rw [if_pos rfl, if_neg (Ne.symm h), if_pos rfl]
  · rw [if_neg e]; by_cases e2 : c = a
    · rw [if_pos e2, if_pos e2]
    · rw [if_neg e2, if_neg e2, if_neg e]
theorem fld_at {μ : Mu} {C r : Addr} {fs0 : List (Str × D)} {f : Str} {d0 : D} {Q : D → Prop} (h : μ r = some (.ins C fs0)) (hl : fs0.lookup f = some d0) : (∃ a fs d, r = a ∧ μ a = some (MO.ins C fs) ∧ List.lookup f fs = some d ∧ Q d) = Q d0 := by
  refine propext ⟨fun ⟨a, fs, d, e, h1, h2, q⟩ => ?_, fun q => ⟨r, fs0, d0, rfl, h, hl, q⟩⟩
  subst e
  rw [h] at h1
  cases h1
  rw [hl] at h2
  cases h2
  exact q
/-- the reader at r stands ahead of token i -/
def RD (C : Addr) (μ : Mu) (r : Addr) (ts : List Tk) (i : Nat) : Prop := μ r = some (.ins C (flds ts i))
def adv (C : Addr) (μ : Mu) (r : Addr) (ts : List Tk) (i : Nat) : Mu := μ.put r (.ins C (flds ts i))
theorem tk_at {ts : List Tk} {i : Nat} {tk : Tk} (h : ts[i]? = some tk) : atI (ts.map eTk) (i : Int) = some (eTk tk) := by
  have hk := (List.getElem?_eq_some_iff.mp h).1
  obtain ⟨x, h1, h2⟩ := atI_in (l := ts) (i := (i : Int)) (by omega) (by omega)
  rw [Int.toNat_natCast, h] at h2
  cases h2
  rw [atI_map, h1]
  rfl
def C_Reader___init__ (C : Addr) : CT := fun ds μ Q => match ds with
  | [.ptr r, t] => ∃ ts : List Tk, t = .lst (ts.map eTk) ∧ μ r = some (.ins C []) ∧ Q .non (adv C μ r ts 0)
  | _ => False
def C_Reader_sees (C : Addr) : CT := fun ds μ Q => match ds with
  | [.ptr r, .str k] => ∃ ts i tk, RD C μ r ts i ∧ ts[i]? = some tk ∧ Q (.bl (tk.k == k)) μ
  | _ => False
def C_Reader_sees_key (C : Addr) : CT := fun ds μ Q => match ds with
  | [.ptr r] => ∃ ts i tk, RD C μ r ts i ∧ ts[i]? = some tk ∧ Q (.bl (tk.k == ("word" : Str) && decide (tk.t.length ≤ 8))) μ
  | _ => False
def C_Reader_sees_word (C : Addr) : CT := fun ds μ Q => match ds with
  | [.ptr r, c] => ∃ ts i tk, ∃ ks : List Str, RD C μ r ts i ∧ ts[i]? = some tk ∧ c = .tup (ks.map .str) ∧ Q (.bl (tk.k == ("word" : Str) && decide ((⟨tk.t.toArray⟩ : Str) ∈ ks))) μ
  | _ => False
def C_Reader_take (C : Addr) : CT := fun ds μ Q => match ds with
  | [.ptr r, .bl b] => b = true ∧ ∃ ts i tk, RD C μ r ts i ∧ ts[i]? = some tk ∧ Q (.str ⟨tk.t.toArray⟩) (adv C μ r ts (i + 1))
  | _ => False
def C_Reader_take_word (C : Addr) : CT := fun ds μ Q => match ds with
  | [.ptr r, c] => ∃ ts i tk, ∃ ks : List Str, RD C μ r ts i ∧ ts[i]? = some tk ∧ c = .tup (ks.map .str) ∧ tk.k = "word" ∧ (⟨tk.t.toArray⟩ : Str) ∈ ks ∧ Q (.str ⟨tk.t.toArray⟩) (adv C μ r ts (i + 1))
  | _ => False
def C_Reader_take_key (C : Addr) : CT := fun ds μ Q => match ds with
  | [.ptr r] => ∃ ts i tk, RD C μ r ts i ∧ ts[i]? = some tk ∧ tk.k = "word" ∧ tk.t.length ≤ 8 ∧ Q (.str ⟨tk.t.toArray⟩) (adv C μ r ts (i + 1))
  | _ => False
def isKey (tk : Tk) : Bool := tk.k == ("word" : Str) && decide (tk.t.length ≤ 8)
def C_Reader_take_keys (C : Addr) : CT := fun ds μ Q => match ds with
  | [.ptr r] => ∃ (ts : List Tk) (i : Nat) (ws rest : List Tk) (tk : Tk), RD C μ r ts i ∧ ts.drop i = ws ++ tk :: rest ∧ ws ≠ [] ∧ ws.length < 64 ∧ (∀ w ∈ ws, isKey w = true) ∧ isKey tk = false ∧
      ∀ ys : List Str, SortedS ys → (∀ k, k ∈ ys ↔ k ∈ ws.map fun w => (⟨w.t.toArray⟩ : Str)) → Q (.tup (ys.map .str)) (adv C μ r ts (i + ws.length))
  | _ => False
section
variable {P : Program} {w : World} {K : PySem.W.Frag} {mg : Str → Option Value} {base : Heap}
theorem ok_Reader___init__ (T : Tx K mg) : FnOk P w K mg base CX0 1 T.a_Reader___init__ T.d_Reader___init__ ["self", "tokens"] (spD K (C_Reader___init__ T.C_Reader)) :=
  DL.Fun.okD (N := ["self", "tokens"]) T.F_Reader___init__ sc_Reader___init__ (fun cdv A outer s H E hr => 
      (dss_cons (ds_fld T.cl_Reader T.na_Reader_tokens (dv 0) (dv 1)) 
      (dss_cons (ds_fld T.cl_Reader T.na_Reader_passed (dv 0) de_int) 
      (dss_one (ds_fld T.cl_Reader T.na_Reader_beyond (dv 0) de_non)))))
    (by intro ds μ Q h; unfold C_Reader___init__ at h; split at h <;> first | rfl | exact h.elim) (by
  intro ds μ Q h
  unfold C_Reader___init__ at h
  split at h
  · rename_i ds' r t
    obtain ⟨ts, rfl, hr, hq⟩ := h
    (walk_at "dl")
    have e1 : putD "tokens" (D.lst (ts.map eTk)) [] = [(("tokens" : Str), D.lst (ts.map eTk))] := rfl
    have e2 : putD "passed" (D.int 0) [(("tokens" : Str), D.lst (ts.map eTk))] = [(("tokens" : Str), D.lst (ts.map eTk)), (("passed" : Str), D.int 0)] := by
      unfold putD
      rw [if_neg (by decide +kernel)]
      rfl
    have e3 : putD "beyond" D.non [(("tokens" : Str), D.lst (ts.map eTk)), (("passed" : Str), D.int 0)] = flds ts 0 := by
      unfold putD
      rw [if_neg (by decide +kernel)]
      unfold putD
      rw [if_neg (by decide +kernel)]
      rfl
    refine ⟨r, _, rfl, hr, by decide, r, _, rfl, Mu.put_same, (by rw [e1]; show 1 < 1000; decide), r, _, rfl, Mu.put_same, (by rw [e1, e2]; show 2 < 1000; decide), ?_⟩
    rw [Mu.put_put, Mu.put_put, e1, e2, e3]
    exact hq
  · exact h.elim
)

theorem ok_Reader_sees (T : Tx K mg) : FnOk P w K mg base CX0 1 T.a_Reader_sees T.d_Reader_sees ["self", "kind"] (spD K (C_Reader_sees T.C_Reader)) :=
  DL.Fun.okD (N := ["self", "kind"]) T.F_Reader_sees sc_Reader_sees (fun cdv A outer s H E hr => 
      (dss_one (ds_ret (de_cmp (op_eqD hr.units) od_eq (de_ix ix_seq od_ix (de_ix ix_seq od_ix (de_fld T.cl_Reader T.na_Reader_tokens (dv 0)) (de_fld T.cl_Reader T.na_Reader_passed (dv 0)) (fun _ _ => rfl)) de_int (fun _ _ => rfl)) (dv 1) (nomark _)))))
    (by intro ds μ Q h; unfold C_Reader_sees at h; split at h <;> first | rfl | exact h.elim) (by
  intro ds μ Q h
  unfold C_Reader_sees at h
  split at h
  · rename_i ds' r k
    obtain ⟨ts, i, tk, hr, ht, hq⟩ := h
    (walk_at "dl")
    simp only [fld_at hr (l_tokens ts i), fld_at hr (l_passed ts i)]
    (walk_at "dl")
    rw [tk_at ht]
    refine ⟨_, rfl, ?_⟩
    unfold eTk
    (walk_at "dl")
    exact hq
  · exact h.elim
)

theorem ok_Reader_sees_key (T : Tx K mg) : FnOk P w K mg base CX0 2 T.a_Reader_sees_key T.d_Reader_sees_key ["self"] (spD K (C_Reader_sees_key T.C_Reader)) :=
  DL.Fun.okD (N := ["self"]) T.F_Reader_sees_key sc_Reader_sees_key (fun cdv A outer s H E hr => 
      (dss_one (ds_ret (de_and (de_meth T.cl_Reader T.mt_Reader_sees (ok_Reader_sees T) (hr.mono (by decide)) T.v_Reader_sees pass0 (dv 0) (da_cons (de_globS rfl T.g_WORD) da_nil)) (de_one (de_cmp op_leD od_le (de_B L2.call_len cd_len (by rfl) T.b_len (by decide +kernel) (da_cons (de_ix ix_seq od_ix (de_ix ix_seq od_ix (de_fld T.cl_Reader T.na_Reader_tokens (dv 0)) (de_fld T.cl_Reader T.na_Reader_passed (dv 0)) (fun _ _ => rfl)) de_int (fun _ _ => rfl)) da_nil)) (de_globI rfl T.g_LONGEST_KEY) (nomark _)))))))
    (by intro ds μ Q h; unfold C_Reader_sees_key at h; split at h <;> first | rfl | exact h.elim) (by
  intro ds μ Q h
  unfold C_Reader_sees_key at h
  split at h
  · rename_i ds' r
    obtain ⟨ts, i, tk, hr, ht, hq⟩ := h
    (walk_at "dl")
    refine ⟨r, _, rfl, hr, l_no ts i (by decide +kernel) (by decide +kernel) (by decide +kernel), ts, i, tk, hr, ht, _, rfl, ?_⟩
    cases h1 : tk.k == ("word" : Str) with
    | false => rw [h1] at hq; exact hq
    | true =>
      rw [h1] at hq
      (walk_at "dl")
      simp only [fld_at hr (l_tokens ts i), fld_at hr (l_passed ts i)]
      (walk_at "dl")
      rw [tk_at ht]
      refine ⟨_, rfl, ?_⟩
      unfold eTk
      (walk_at "dl")
      have e : ((⟨tk.t.toArray⟩ : Str).length : Int) = tk.t.length := by show ((tk.t.toArray.size : Nat) : Int) = _; rw [List.size_toArray]
      rw [e]
      have e2 : decide ((tk.t.length : Int) ≤ 8) = decide (tk.t.length ≤ 8) := by rw [decide_eq_decide]; omega
      rw [e2]
      exact hq
  · exact h.elim
)

theorem ok_Reader_take (T : Tx K mg) : FnOk P w K mg base CX0 1 T.a_Reader_take T.d_Reader_take ["self", "fits"] (spD K (C_Reader_take T.C_Reader)) :=
  DL.Fun.okD (N := ["self", "fits", "kind", "word", "place"]) T.F_Reader_take sc_Reader_take (fun cdv A outer s H E hr => 
      (dss_cons (ds_asg (de_ix ix_seq od_ix (de_fld T.cl_Reader T.na_Reader_tokens (dv 0)) (de_fld T.cl_Reader T.na_Reader_passed (dv 0)) (fun _ _ => rfl)) (dg_tup [2, 3, 4] rfl (pgs_cons (pg_name (i := 2) sc_Reader_take.nd rfl (by first | exact Or.inl rfl | exact Or.inr rfl)) (pgs_cons (pg_name (i := 3) sc_Reader_take.nd rfl (by first | exact Or.inl rfl | exact Or.inr rfl)) (pgs_cons (pg_name (i := 4) sc_Reader_take.nd rfl (by first | exact Or.inl rfl | exact Or.inr rfl)) pgs_nil))))) 
      (dss_cons (ds_if (dw_pt (dw_and (dt_cmp (op_eqD hr.units) od_eq (dv 2) (de_globS rfl T.g_END) (nomark _)) (dw_and1 (dt_not (dt_tru (dv 1)))))) dss_never dss_nil) 
      (dss_cons (ds_if (dt_not (dt_tru (dv 1))) dss_never dss_nil) 
      (dss_cons (ds_fldI T.cl_Reader T.na_Reader_passed (dv 0) de_int) 
      (dss_one (ds_ret (dv 3))))))))
    (by intro ds μ Q h; unfold C_Reader_take at h; split at h <;> first | rfl | exact h.elim) (by
  intro ds μ Q h
  unfold C_Reader_take at h
  split at h
  · rename_i ds' r b
    obtain ⟨rfl, ts, i, tk, hr, ht, hq⟩ := h
    (walk_at "dl")
    simp only [fld_at hr (l_tokens ts i), fld_at hr (l_passed ts i)]
    (walk_at "dl")
    rw [tk_at ht]
    refine ⟨_, rfl, ?_⟩
    unfold eTk
    (walk_at "dl")
    have fin : ∃ a fs i_1, r = a ∧ μ a = some (MO.ins T.C_Reader fs) ∧ List.lookup (Str.ofString "passed") fs = some (D.int i_1) ∧ ∃ j fs', 1 = j ∧ μ a = some (MO.ins T.C_Reader fs') ∧ fs'.length < 1000 ∧ Q (D.str { cps := tk.t.toArray }) (μ.put a (MO.ins T.C_Reader (putD (Str.ofString "passed") (D.int (i_1 + j)) fs'))) := by
      refine ⟨r, _, i, rfl, hr, l_passed ts i, 1, _, rfl, hr, by show 3 < 1000; decide, ?_⟩
      have e := put_passed ts i
      have e2 : putD (Str.ofString "passed") (D.int ((i : Int) + 1)) (flds ts i) = flds ts (i + 1) := e
      rw [e2]
      exact hq
    split <;> exact fin
  · exact h.elim
)

theorem ok_Reader_sees_word (T : Tx K mg) : FnOk P w K mg base CX0 2 T.a_Reader_sees_word T.d_Reader_sees_word ["self", "choices"] (spD K (C_Reader_sees_word T.C_Reader)) :=
  DL.Fun.okD (N := ["self", "choices"]) T.F_Reader_sees_word sc_Reader_sees_word (fun cdv A outer s H E hr => 
      (dss_one (ds_ret (de_and (de_meth T.cl_Reader T.mt_Reader_sees (ok_Reader_sees T) (hr.mono (by decide)) T.v_Reader_sees pass0 (dv 0) (da_cons (de_globS rfl T.g_WORD) da_nil)) (de_one (de_cmp op_inD2 od_in (de_ix ix_seq od_ix (de_ix ix_seq od_ix (de_fld T.cl_Reader T.na_Reader_tokens (dv 0)) (de_fld T.cl_Reader T.na_Reader_passed (dv 0)) (fun _ _ => rfl)) de_int (fun _ _ => rfl)) (dv 1) (by rfl)))))))
    (by intro ds μ Q h; unfold C_Reader_sees_word at h; split at h <;> first | rfl | exact h.elim) (by
  intro ds μ Q h
  unfold C_Reader_sees_word at h
  split at h
  · rename_i ds' r c
    obtain ⟨ts, i, tk, ks, hr, ht, rfl, hq⟩ := h
    (walk_at "dl")
    refine ⟨r, _, rfl, hr, l_no ts i (by decide +kernel) (by decide +kernel) (by decide +kernel), ts, i, tk, hr, ht, _, rfl, ?_⟩
    cases h1 : tk.k == ("word" : Str) with
    | false => rw [h1] at hq; exact hq
    | true =>
      rw [h1] at hq
      (walk_at "dl")
      simp only [fld_at hr (l_tokens ts i), fld_at hr (l_passed ts i)]
      (walk_at "dl")
      rw [tk_at ht]
      refine ⟨_, rfl, ?_⟩
      unfold eTk
      (walk_at "dl")
      refine ⟨flat_strs ks, ?_⟩
      rw [any_str]
      exact hq
  · exact h.elim
)

theorem ok_Reader_take_word (T : Tx K mg) : FnOk P w K mg base CX0 3 T.a_Reader_take_word T.d_Reader_take_word ["self", "choices"] (spD K (C_Reader_take_word T.C_Reader)) :=
  DL.Fun.okD (N := ["self", "choices"]) T.F_Reader_take_word sc_Reader_take_word (fun cdv A outer s H E hr => 
      (dss_one (ds_ret (de_meth T.cl_Reader T.mt_Reader_take (ok_Reader_take T) (hr.mono (by decide)) T.v_Reader_take pass0 (dv 0) (da_cons (de_meth T.cl_Reader T.mt_Reader_sees_word (ok_Reader_sees_word T) (hr.mono (by decide)) T.v_Reader_sees_word pass0 (dv 0) (da_cons (dv 1) da_nil)) da_nil)))))
    (by intro ds μ Q h; unfold C_Reader_take_word at h; split at h <;> first | rfl | exact h.elim) (by
  intro ds μ Q h
  unfold C_Reader_take_word at h
  split at h
  · rename_i ds' r c
    obtain ⟨ts, i, tk, ks, hr, ht, rfl, hk, hm, hq⟩ := h
    (walk_at "dl")
    refine ⟨r, _, rfl, hr, l_no ts i (by decide +kernel) (by decide +kernel) (by decide +kernel), r, _, rfl, hr, l_no ts i (by decide +kernel) (by decide +kernel) (by decide +kernel), ts, i, tk, ks, hr, ht, rfl, ?_⟩
    rw [hk, beq_self_eq_true, decide_eq_true hm]
    exact ⟨rfl, ts, i, tk, hr, ht, hq⟩
  · exact h.elim
)

theorem ok_Reader_take_key (T : Tx K mg) : FnOk P w K mg base CX0 3 T.a_Reader_take_key T.d_Reader_take_key ["self"] (spD K (C_Reader_take_key T.C_Reader)) :=
  DL.Fun.okD (N := ["self"]) T.F_Reader_take_key sc_Reader_take_key (fun cdv A outer s H E hr => 
      (dss_one (ds_ret (de_meth T.cl_Reader T.mt_Reader_take (ok_Reader_take T) (hr.mono (by decide)) T.v_Reader_take pass0 (dv 0) (da_cons (de_meth0 T.cl_Reader T.mt_Reader_sees_key (ok_Reader_sees_key T) (hr.mono (by decide)) T.v_Reader_sees_key pass0 (dv 0)) da_nil)))))
    (by intro ds μ Q h; unfold C_Reader_take_key at h; split at h <;> first | rfl | exact h.elim) (by
  intro ds μ Q h
  unfold C_Reader_take_key at h
  split at h
  · rename_i ds' r
    obtain ⟨ts, i, tk, hr, ht, hk, hm, hq⟩ := h
    (walk_at "dl")
    refine ⟨r, _, rfl, hr, l_no ts i (by decide +kernel) (by decide +kernel) (by decide +kernel), r, _, rfl, hr, l_no ts i (by decide +kernel) (by decide +kernel) (by decide +kernel), ts, i, tk, hr, ht, ?_⟩
    rw [hk, beq_self_eq_true, decide_eq_true hm]
    exact ⟨rfl, ts, i, tk, hr, ht, hq⟩
  · exact h.elim
)

theorem ok_Reader_take_keys (T : Tx K mg) : FnOk P w K mg base CX0 4 T.a_Reader_take_keys T.d_Reader_take_keys ["self"] (spD K (C_Reader_take_keys T.C_Reader)) :=
  DL.Fun.okD (N := ["self", "keys"]) T.F_Reader_take_keys sc_Reader_take_keys (fun cdv A outer s H E hr => 
      (dss_cons (ds_set 1 sc_Reader_take_keys.nd (de_lstM (da_cons (de_meth0 T.cl_Reader T.mt_Reader_take_key (ok_Reader_take_key T) (hr.mono (by decide)) T.v_Reader_take_key pass0 (dv 0)) da_nil))) 
      (dss_cons (ds_while PassesOwn.never (dt_tru (de_meth0 T.cl_Reader T.mt_Reader_sees_key (ok_Reader_sees_key T) (hr.mono (by decide)) T.v_Reader_sees_key pass0 (dv 0))) 
      (dss_one (ds_app (dv 1) (de_meth0 T.cl_Reader T.mt_Reader_take_key (ok_Reader_take_key T) (hr.mono (by decide)) T.v_Reader_take_key pass0 (dv 0))))) 
      (dss_frz 1 (dss_one (ds_ret (de_T call_tuple_of cd_tuple (by rfl) T.b_tuple (by decide +kernel) (da_cons (de_sortedSet T.b_sorted T.b_set (dv 1)) da_nil))))))))
    (by intro ds μ Q h; unfold C_Reader_take_keys at h; split at h <;> first | rfl | exact h.elim) (by
  intro ds μ Q h
  unfold C_Reader_take_keys at h
  split at h
  · rename_i ds' r
    obtain ⟨ts, i, ws, rest, tk, hr, hd, hne, hl, hw, hk, hq⟩ := h
    have atw : ∀ (j : Nat) (hj : j < ws.length), ts[i + j]? = some ws[j] := fun j hj => by
      have h1 : (ts.drop i)[j]? = some ws[j] := by rw [hd, List.getElem?_append_left hj, List.getElem?_eq_getElem hj]
      rw [List.getElem?_drop] at h1
      exact h1
    have atk : ts[i + ws.length]? = some tk := by
      have h1 : (ts.drop i)[ws.length]? = some tk := by rw [hd, List.getElem?_append_right (Nat.le_refl _)]; simp
      rw [List.getElem?_drop] at h1
      exact h1
    have key : ∀ t : Tk, isKey t = true → t.k = "word" ∧ t.t.length ≤ 8 := fun t ht => by
      unfold isKey at ht
      rw [Bool.and_eq_true] at ht
      exact ⟨eq_of_beq ht.1, of_decide_eq_true ht.2⟩
    have h0 : 0 < ws.length := List.length_pos_iff.mpr hne
    have k0 := key _ (hw _ (List.getElem_mem h0))
    refine step_set (fun d μ2 => ∃ p, d = .ptr p ∧ p ≠ r ∧ μ p = none ∧ μ2 = (adv T.C_Reader μ r ts (i + 1)).put p (.lst [.str ⟨(ws[0]'h0).t.toArray⟩])) (fun R hR => ?_) fun d μ2 hS => ?_
    · (walk_at "dl")
      refine ⟨r, _, rfl, hr, l_no ts i (by decide +kernel) (by decide +kernel) (by decide +kernel), ts, i, _, hr, atw 0 h0, k0.1, k0.2, ?_⟩
      intro p hp
      have hpr : p ≠ r := fun e => by subst e; unfold adv at hp; rw [Mu.put_same] at hp; cases hp
      refine hR _ _ ⟨p, rfl, hpr, ?_, rfl⟩
      unfold adv at hp
      rw [Mu.put_ne hpr] at hp
      exact hp
    obtain ⟨p, rfl, hpr, hp, rfl⟩ := hS
    show sSeq _ _ _ [some (.ptr r), some (.ptr p)] _
    refine step (fun ρ' μ2 => ρ' = [some (.ptr r), some (.ptr p)] ∧ μ2 = (adv T.C_Reader μ r ts (i + ws.length)).put p (.lst (ws.map fun w => .str ⟨w.t.toArray⟩))) (fun E' hE' => ?_) fun ρ' μ2 hS => ?_
    · refine ⟨fun m ρ' μ2 => ∃ j, j ≤ ws.length ∧ ρ' = [some (.ptr r), some (.ptr p)] ∧ μ2 = (adv T.C_Reader μ r ts (i + j)).put p (.lst ((ws.take j).map fun w => .str ⟨w.t.toArray⟩)) ∧ m = ws.length - j, ⟨_, 1, h0, rfl, ?_, rfl⟩, ?_⟩
      · have : ws.take 1 = [ws[0]'h0] := by rw [List.take_one]; cases ws with | nil => cases h0 | cons a l => rfl
        rw [this]; rfl
      rintro m ρ' μ2 ⟨j, hj, rfl, rfl, rfl⟩
      (walk_at "dl")
      have hrr : RD T.C_Reader ((adv T.C_Reader μ r ts (i + j)).put p (.lst ((ws.take j).map fun w => .str ⟨w.t.toArray⟩))) r ts (i + j) := by
        unfold RD adv
        rw [Mu.put_ne (Ne.symm hpr), Mu.put_same]
      by_cases hlt : j < ws.length
      · refine ⟨r, _, rfl, hrr, l_no ts _ (by decide +kernel) (by decide +kernel) (by decide +kernel), ts, i + j, _, hrr, atw j hlt, ?_⟩
        have kj := hw _ (List.getElem_mem hlt)
        have kj2 := key _ kj
        unfold isKey at kj
        rw [kj]
        refine ⟨true, rfl, ?_⟩
        rw [if_pos rfl]
        refine ⟨p, _, rfl, Mu.put_same, r, _, rfl, hrr, l_no ts _ (by decide +kernel) (by decide +kernel) (by decide +kernel), ts, i + j, _, hrr, atw j hlt, kj2.1, kj2.2, _, (by unfold adv; rw [Mu.put_ne hpr, Mu.put_same]), sz_small' (by rw [List.length_map, List.length_take]; omega), ws.length - (j + 1), by omega, j + 1, by omega, ?_, rfl⟩
        unfold adv
        rw [put_comm hpr, Mu.put_put, Mu.put_put, List.take_add_one, List.getElem?_eq_getElem hlt, List.map_append]
        rfl
      · have hje : j = ws.length := by omega
        subst hje
        refine ⟨r, _, rfl, hrr, l_no ts _ (by decide +kernel) (by decide +kernel) (by decide +kernel), ts, i + ws.length, _, hrr, atk, ?_⟩
        unfold isKey at hk
        rw [hk]
        (walk_at "dl")
        rw [List.take_length]
        exact hE' _ _ ⟨rfl, rfl⟩
    obtain ⟨rfl, rfl⟩ := hS
    (walk_at "dl")
    have hap : (adv T.C_Reader μ r ts (i + ws.length)) p = none := by unfold adv; rw [Mu.put_ne hpr]; exact hp
    refine ⟨p, _, rfl, Mu.put_same, ?_⟩
    rw [Mu.put_del hap]
    unfold dSortS
    (walk_at "dl")
    have em : (ws.map fun w => D.str ⟨w.t.toArray⟩) = (ws.map fun w => (⟨w.t.toArray⟩ : Str)).map D.str := by rw [List.map_map]; rfl
    refine ⟨_, _, rfl, by rw [em]; exact strs_map _, by rw [List.length_map]; exact hl, fun ys hs hm => ?_⟩
    exact hq ys hs hm
  · exact h.elim
)

end
end K41
end

-- part A3
section
local macro_rules | `(tactic| walk_at "dl") => `(tactic| simp only [DL.sRet, DL.dJoined, DL.dJs, DL.dFmt, DL.dFld, DL.dMeth, DL.dMake, DL.sFld, DL.sFldI, DL.sSeq, DL.sSet, DL.sIf, DL.sNext, DL.sNever, DL.sDrop, DL.sAsg, DL.sRetN, DL.dVar, DL.dC, DL.dOp, DL.dTest, DL.dAnd, DL.dOr, DL.dNot, DL.dTru, DL.dAndV, DL.dOrV, DL.dNotV, DL.dIf, DL.aNil, DL.aCons, DL.dTup, DL.dLst, DL.dLstM, DL.dCall, DL.dFrz, DL.dB, DL.dNeg, DL.dSl, DL.oNone, DL.oSome, DL.dChn, DL.gN, DL.gT, DL.setAll,
  DL.ix_l, DL.ix_t, DL.ix_s, DL.ix_p, DL.add_i, DL.add_s, DL.add_l, DL.add_t, DL.mul_i, DL.mul_b, DL.sub_i, DL.fdiv_i, DL.mod_i, DL.pow_i, DL.shl_i, DL.shr_i, DL.and_i, DL.lt_i, DL.le_i, DL.gt_i, DL.ge_i, DL.le_s, DL.in_t, DL.in_l, DL.in_s, DL.len_l, DL.len_t, DL.len_s, DL.len_p, DL.list_l, DL.list_t, DL.list_s, DL.list_p, DL.tuple_l, DL.tuple_t, DL.int_i, DL.int_b, DL.abs_i, DL.max_i, DL.min_i, DL.all_l, DL.any_l, DL.isi_1, DL.isi_n, DL.sl_l, DL.sl_t, DL.sl_s, DL.neg_i, DL.isN_i, DL.notN_i, DL.eq_x, DL.ne_x,
  DL.w_wrote_many, DL.w_wrote_many_b, DL.w_wrote_among, DL.w_wrote_among_b, DL.w_wrote_did, DL.w_wrote_did_b, DL.w_wrote_times, DL.w_wrote_times_b, DL.w_wrote_value, DL.w_wrote_value_b, DL.w_wrote_head, DL.w_wrote_head_b, DL.w_many_wrote, DL.w_many_wrote_b, DL.w_many_among, DL.w_many_among_b, DL.w_many_did, DL.w_many_did_b, DL.w_many_times, DL.w_many_times_b, DL.w_many_value, DL.w_many_value_b, DL.w_many_head, DL.w_many_head_b, DL.w_among_wrote, DL.w_among_wrote_b, DL.w_among_many, DL.w_among_many_b, DL.w_among_did, DL.w_among_did_b, DL.w_among_times, DL.w_among_times_b, DL.w_among_value, DL.w_among_value_b, DL.w_among_head, DL.w_among_head_b, DL.w_did_wrote, DL.w_did_wrote_b, DL.w_did_many, DL.w_did_many_b, DL.w_did_among, DL.w_did_among_b, DL.w_did_times, DL.w_did_times_b, DL.w_did_value, DL.w_did_value_b, DL.w_did_head, DL.w_did_head_b, DL.w_times_wrote, DL.w_times_wrote_b, DL.w_times_many, DL.w_times_many_b, DL.w_times_among, DL.w_times_among_b, DL.w_times_did, DL.w_times_did_b, DL.w_times_value, DL.w_times_value_b, DL.w_times_head, DL.w_times_head_b, DL.w_value_wrote, DL.w_value_wrote_b, DL.w_value_many, DL.w_value_many_b, DL.w_value_among, DL.w_value_among_b, DL.w_value_did, DL.w_value_did_b, DL.w_value_times, DL.w_value_times_b, DL.w_value_head, DL.w_value_head_b, DL.w_head_wrote, DL.w_head_wrote_b, DL.w_head_many, DL.w_head_many_b, DL.w_head_among, DL.w_head_among_b, DL.w_head_did, DL.w_head_did_b, DL.w_head_times, DL.w_head_times_b, DL.w_head_value, DL.w_head_value_b,
  DL.q_ss, DL.q_ii, DL.q_bb, DL.q_nn, DL.q_tt, DL.q_ll, DL.q_si, DL.q_sn, DL.q_st, DL.q_sl, DL.q_is, DL.q_in, DL.q_it, DL.q_il, DL.q_ns, DL.q_ni, DL.q_nt, DL.q_nl, DL.q_ts, DL.q_ti, DL.q_tn, DL.q_tl, DL.q_ls, DL.q_li, DL.q_ln, DL.q_lt, DL.qs_nil, DL.qs_cons, DL.qs_nc, DL.qs_cn, DL.p_t16, DL.p_l16, DL.p_t15, DL.p_l15, DL.p_t14, DL.p_l14, DL.p_t13, DL.p_l13, DL.p_t12, DL.p_l12, DL.p_s, DL.p_i, DL.p_b, DL.p_n, DL.ps_nil, DL.ps_cons, DL.t_b, DL.t_i, DL.t_l, DL.t_t, DL.t_n, DL.n_n, DL.n_i, DL.n_s, DL.n_t, DL.n_l, DL.n_b, DL.f_s, DL.f_i,
  Bool.false_and, Bool.and_false, DL.z0, DL.z1, DL.z2, DL.z3, DL.z4, DL.z5, DL.z6, DL.z12,
  DL.startD, DL.sFrz, DL.sApp, DL.yesD, DL.lcTurn, DL.wipeE, DL.at0, DL.at1, DL.at2, DL.at3, DL.at4, List.map_cons, List.map_nil, List.replicate_succ, List.replicate_zero, List.length_cons, List.length_nil, List.cons_append, List.nil_append, List.set_cons_zero, List.set_cons_succ, List.getElem?_cons_zero, List.getElem?_cons_succ, Option.some.injEq, exists_eq_left, exists_eq_left', exists_eq', exists_eq, true_and, and_true, decide_eq_true_eq, if_true, if_false, Bool.false_eq_true, reduceIte, Nat.reduceAdd, Nat.reduceSub, DL.D.bl.injEq, DL.D.int.injEq, DL.D.str.injEq, DL.D.tup.injEq, DL.D.lst.injEq, DL.D.ptr.injEq, Bool.not_true, Bool.not_false, beq_self_eq_true, List.all_cons, List.all_nil, List.any_cons, List.any_nil, Bool.and_true, Bool.true_and, Bool.or_false, Bool.false_or, Bool.or_true, Bool.true_or, Bool.false_xor, Bool.true_xor, beq_iff_eq, Bool.not_eq_true, Int.reduceEq, Int.reduceBEq, and_self])

namespace K41
open PySem L2 DL PySem.NumText
theorem drop_tw {α : Type} (p : α → Bool) : ∀ l : List α, l.drop (l.takeWhile p).length = l.dropWhile p
  | [] => rfl
  | a :: l => by
    rw [List.takeWhile_cons, List.dropWhile_cons]
    by_cases h : p a = true
    · rw [if_pos h, if_pos h, List.length_cons, List.drop_succ_cons, drop_tw p l]
    · rw [if_neg h, if_neg h]; rfl
theorem strip_list (x y : Str) : (Txt.lstripChars x y).cps.toList = x.cps.toList.dropWhile y.cps.contains := by
  unfold Txt.lstripChars
  rw [PyProof.Rows.stripBy_eq]
  show (x.cps.extract (x.cps.toList.takeWhile y.cps.contains).length x.cps.size).toList = _
  rw [Array.toList_extract, ← drop_tw]
  have h := Array.length_toList (xs := x.cps)
  rw [List.extract_eq_take_drop, List.take_of_length_le (by rw [List.length_drop, h]; omega)]
theorem sok_list {l : List Nat} (h : ∀ c ∈ l, c < 128) (hl : l.length ≤ 10000) : SOk ⟨l.toArray⟩ := by
  refine ⟨sz_small (by show l.toArray.size ≤ 10000; rw [List.size_toArray]; exact hl), ?_⟩
  show l.toArray.all (· < 0x110000) = true
  rw [List.all_toArray, List.all_eq_true]
  intro c hc
  have := h c hc
  simp; omega
theorem dz (l : List Nat) : digitsVal (l.dropWhile (· == 48)) = digitsVal l := by
  induction l with
  | nil => rfl
  | cons c l ih =>
    rw [List.dropWhile_cons]
    by_cases h : (c == 48) = true
    · rw [if_pos h, ih]
      have : c = 48 := eq_of_beq h
      subst this
      exact digitsVal_zero.symm
    · rw [if_neg h]
/-- a token's text that reads as n -/
def NumT (t : List Nat) (n : Int) : Prop := ∃ (neg : Bool) (ds : List Nat), t = (if neg = true then [45] else []) ++ ds ∧ AllDigits ds ∧ ds ≠ [] ∧ (ds.dropWhile (· == 48)).length ≤ 8 ∧ ds.length ≤ 100 ∧ n = if neg = true then -(digitsVal ds : Int) else digitsVal ds
def C_number_of : CT := fun ds μ Q => match ds with
  | [.str t] => ∃ n, NumT t.cps.toList n ∧ Q (.int n) μ
  | _ => False
def C_Reader_take_number (C : Addr) : CT := fun ds μ Q => match ds with
  | [.ptr r, .int lo, .int hi] => ∃ ts i tk n, RD C μ r ts i ∧ ts[i]? = some tk ∧ tk.k = "number" ∧ NumT tk.t n ∧ lo ≤ n ∧ n ≤ hi ∧ Q (.int n) (adv C μ r ts (i + 1))
  | _ => False
section
variable {P : Program} {w : World} {K : PySem.W.Frag} {mg : Str → Option Value} {base : Heap}
theorem ok_number_of (T : Tx K mg) : FnOk P w K mg base CX0 1 T.a_number_of T.d_number_of ["word"] (spD K C_number_of) :=
  DL.Fun.okD (N := ["word", "digits", "size"]) T.F_number_of sc_number_of (fun cdv A outer s H E hr => 
      (dss_cons (ds_set 1 sc_number_of.nd (de_sl (de_lstrip (dv 0) (de_str)) do_none (do_some de_int))) 
      (dss_cons (ds_set 2 sc_number_of.nd (de_T call_intS cd_intS (by rfl) T.b_int (by decide +kernel) (da_cons (de_op op_addD od_add (de_str) (dv 1)) da_nil))) 
      (dss_one (ds_ret (de_if (dt_cmp (op_eqD hr.units) od_eq (de_ix ix_seq od_ix (dv 0) de_int (fun _ _ => rfl)) (de_str) (nomark _)) (de_neg (dv 2)) (dv 2)))))))
    (by intro ds μ Q h; unfold C_number_of at h; split at h <;> first | rfl | exact h.elim) (by
  intro ds μ Q h
  unfold C_number_of at h
  split at h
  · rename_i ds' t
    obtain ⟨n, ⟨neg, ds, ht, hd, hne, h8, hl, hn⟩, hq⟩ := h
    (walk_at "dl")
    unfold dLstrip
    (walk_at "dl")
    have hds : ∀ c ∈ ds, ("-0" : Str).cps.contains c = (c == 48) := fun c hc => by
      have := hd c hc
      rw [show ("-0" : Str).cps = #[45, 48] from rfl]
      by_cases e : c = 48
      · subst e; simp
      · have : ¬ c = 45 := by omega
        simp [e, this]
    have dwc : ∀ l : List Nat, (∀ c ∈ l, c ∈ ds) → l.dropWhile ("-0" : Str).cps.contains = l.dropWhile (· == 48) := by
      intro l
      induction l with
      | nil => intro _; rfl
      | cons c l ih =>
        intro h
        rw [List.dropWhile_cons, List.dropWhile_cons, hds c (h c (by simp)), ih fun d hd' => h d (by simp [hd'])]
    have es : (Txt.lstripChars t ("-0" : Str)).cps.toList = ds.dropWhile (· == 48) := by
      rw [strip_list, ht]
      cases neg with
      | false => exact dwc ds fun _ h => h
      | true =>
        rw [if_pos rfl, List.singleton_append, List.dropWhile_cons, if_pos (by decide +kernel)]
        exact dwc ds fun _ h => h
    have ad : AllDigits (ds.dropWhile (· == 48)) := fun c hc => hd c ((List.dropWhile_suffix _).subset hc)
    have et : Txt.lstripChars t ("-0" : Str) = ⟨(ds.dropWhile (· == 48)).toArray⟩ := by
      have h : (Txt.lstripChars t ("-0" : Str)).cps = (ds.dropWhile (· == 48)).toArray := by
        apply Array.toList_inj.mp; rw [es]
      rw [← h]
    have ec : cutS (⟨(ds.dropWhile (· == 48)).toArray⟩ : Str) none (some 8) = ⟨(ds.dropWhile (· == 48)).toArray⟩ := by
      have h := cut_signs (⟨(ds.dropWhile (· == 48)).toArray⟩ : Str) 0 8
      unfold cutS at h ⊢
      have h0 : HT.sIx (⟨(ds.dropWhile (· == 48)).toArray⟩ : Str).length 0 (some ((0 : Nat) : Int)) = HT.sIx (⟨(ds.dropWhile (· == 48)).toArray⟩ : Str).length 0 none := by rw [HT.sIx_nat, HT.sIx_none]; omega
      rw [h0] at h
      refine h.trans ?_
      show (⟨(((ds.dropWhile (· == 48)).toArray.toList.drop 0).take 8).toArray⟩ : Str) = _
      rw [List.drop_zero, List.take_of_length_le h8]
    rw [et, ec]
    refine ⟨sok_list (fun c hc => by have := ad c hc; omega) (by omega), ?_, ?_⟩
    · show 1 + (ds.dropWhile (· == 48)).toArray.size ≤ sizeLine
      rw [List.size_toArray]
      exact sz_small (by omega)
    have e0 : (("0" : Str) ++ (⟨(ds.dropWhile (· == 48)).toArray⟩ : Str)).cps.toList = 48 :: ds.dropWhile (· == 48) := by
      show ((#[48] : Array Nat) ++ (ds.dropWhile (· == 48)).toArray).toList = _
      simp
    have hl0 : (("0" : Str) ++ (⟨(ds.dropWhile (· == 48)).toArray⟩ : Str)).length ≤ 9 := by
      show (("0" : Str) ++ (⟨(ds.dropWhile (· == 48)).toArray⟩ : Str)).cps.size ≤ 9
      rw [← Array.length_toList, e0, List.length_cons]; omega
    refine ⟨(digitsVal ds : Int), ?_, by omega, ?_⟩
    · have h := PySem.intText_digits (x := ("0" : Str) ++ (⟨(ds.dropWhile (· == 48)).toArray⟩ : Str)) (by rw [e0]; intro c hc; rcases List.mem_cons.mp hc with e | hc; (subst e; decide); exact ad c hc) (by rw [e0]; simp) (by omega)
      rw [e0, digitsVal_zero, dz] at h
      exact h
    · cases neg with
      | true =>
        rw [if_pos rfl] at ht hn
        refine ⟨45, by rw [ht]; exact at0, ?_⟩
        rw [if_pos (by rfl)]
        rw [hn] at hq
        exact hq
      | false =>
        rw [if_neg (by decide)] at ht hn
        cases ds with
        | nil => exact absurd rfl hne
        | cons c l =>
          refine ⟨c, by rw [ht]; exact at0, ?_⟩
          have := hd c (by simp)
          rw [if_neg (by rw [dash]; omega)]
          rw [hn] at hq
          exact hq
  · exact h.elim
)

theorem ok_Reader_take_number (T : Tx K mg) : FnOk P w K mg base CX0 2 T.a_Reader_take_number T.d_Reader_take_number ["self", "least", "greatest"] (spD K (C_Reader_take_number T.C_Reader)) :=
  DL.Fun.okD (N := ["self", "least", "greatest", "place", "number"]) T.F_Reader_take_number sc_Reader_take_number (fun cdv A outer s H E hr => 
      (dss_cons (ds_set 3 sc_Reader_take_number.nd (de_ix ix_seq od_ix (de_ix ix_seq od_ix (de_fld T.cl_Reader T.na_Reader_tokens (dv 0)) (de_fld T.cl_Reader T.na_Reader_passed (dv 0)) (fun _ _ => rfl)) de_int (fun _ _ => rfl))) 
      (dss_cons (ds_set 4 sc_Reader_take_number.nd (de_call (ok_number_of T) (hr.mono (by decide)) (by rfl) T.m_number_of T.k_number_of T.v_number_of pass0 (da_cons (de_meth T.cl_Reader T.mt_Reader_take (ok_Reader_take T) (hr.mono (by decide)) T.v_Reader_take pass0 (dv 0) (da_cons (de_meth T.cl_Reader T.mt_Reader_sees (ok_Reader_sees T) (hr.mono (by decide)) T.v_Reader_sees pass0 (dv 0) (da_cons (de_globS rfl T.g_NUMBER) da_nil)) da_nil)) da_nil))) 
      (dss_cons (ds_if (dw_pt (dw_and (dt_cmp op_isN od_isN (de_fld T.cl_Reader T.na_Reader_beyond (dv 0)) de_non (nomark _)) (dw_and1 (dt_not (dt_chain op_leD op_leD od_le od_le (dv 1) (dv 4) (dv 2)))))) 
      (dss_one (ds_fld T.cl_Reader T.na_Reader_beyond (dv 0) (dv 3))) dss_nil) 
      (dss_one (ds_ret (dv 4)))))))
    (by intro ds μ Q h; unfold C_Reader_take_number at h; split at h <;> first | rfl | exact h.elim) (by
  intro ds μ Q h
  unfold C_Reader_take_number at h
  split at h
  · rename_i ds' r lo hi
    obtain ⟨ts, i, tk, n, hr, ht, hk, hn, h1, h2, hq⟩ := h
    (walk_at "dl")
    simp only [fld_at hr (l_tokens ts i), fld_at hr (l_passed ts i)]
    (walk_at "dl")
    rw [tk_at ht]
    refine ⟨_, rfl, ?_⟩
    unfold eTk
    (walk_at "dl")
    refine ⟨r, _, rfl, hr, l_no ts i (by decide +kernel) (by decide +kernel) (by decide +kernel), r, _, rfl, hr, l_no ts i (by decide +kernel) (by decide +kernel) (by decide +kernel), ts, i, tk, hr, ht, ?_⟩
    rw [hk, beq_self_eq_true]
    refine ⟨rfl, ts, i, tk, hr, ht, n, by simpa using hn, ?_⟩
    have hr2 : adv T.C_Reader μ r ts (i + 1) r = some (.ins T.C_Reader (flds ts (i + 1))) := Mu.put_same
    (walk_at "dl")
    simp only [fld_at hr2 (l_beyond ts (i + 1))]
    (walk_at "dl")
    rw [if_pos h1, if_neg (by simp [h2])]
    exact hq
  · exact h.elim
)

end
end K41
end

-- part A4
section
local macro_rules | `(tactic| walk_at "dl") => `(tactic| simp only [DL.sRet, DL.dJoined, DL.dJs, DL.dFmt, DL.dFld, DL.dMeth, DL.dMake, DL.sFld, DL.sFldI, DL.sSeq, DL.sSet, DL.sIf, DL.sNext, DL.sNever, DL.sDrop, DL.sAsg, DL.sRetN, DL.dVar, DL.dC, DL.dOp, DL.dTest, DL.dAnd, DL.dOr, DL.dNot, DL.dTru, DL.dAndV, DL.dOrV, DL.dNotV, DL.dIf, DL.aNil, DL.aCons, DL.dTup, DL.dLst, DL.dLstM, DL.dCall, DL.dFrz, DL.dB, DL.dNeg, DL.dSl, DL.oNone, DL.oSome, DL.dChn, DL.gN, DL.gT, DL.setAll,
  DL.ix_l, DL.ix_t, DL.ix_s, DL.ix_p, DL.add_i, DL.add_s, DL.add_l, DL.add_t, DL.mul_i, DL.mul_b, DL.sub_i, DL.fdiv_i, DL.mod_i, DL.pow_i, DL.shl_i, DL.shr_i, DL.and_i, DL.lt_i, DL.le_i, DL.gt_i, DL.ge_i, DL.le_s, DL.in_t, DL.in_l, DL.in_s, DL.len_l, DL.len_t, DL.len_s, DL.len_p, DL.list_l, DL.list_t, DL.list_s, DL.list_p, DL.tuple_l, DL.tuple_t, DL.int_i, DL.int_b, DL.abs_i, DL.max_i, DL.min_i, DL.all_l, DL.any_l, DL.isi_1, DL.isi_n, DL.sl_l, DL.sl_t, DL.sl_s, DL.neg_i, DL.isN_i, DL.notN_i, DL.eq_x, DL.ne_x,
  DL.w_wrote_many, DL.w_wrote_many_b, DL.w_wrote_among, DL.w_wrote_among_b, DL.w_wrote_did, DL.w_wrote_did_b, DL.w_wrote_times, DL.w_wrote_times_b, DL.w_wrote_value, DL.w_wrote_value_b, DL.w_wrote_head, DL.w_wrote_head_b, DL.w_many_wrote, DL.w_many_wrote_b, DL.w_many_among, DL.w_many_among_b, DL.w_many_did, DL.w_many_did_b, DL.w_many_times, DL.w_many_times_b, DL.w_many_value, DL.w_many_value_b, DL.w_many_head, DL.w_many_head_b, DL.w_among_wrote, DL.w_among_wrote_b, DL.w_among_many, DL.w_among_many_b, DL.w_among_did, DL.w_among_did_b, DL.w_among_times, DL.w_among_times_b, DL.w_among_value, DL.w_among_value_b, DL.w_among_head, DL.w_among_head_b, DL.w_did_wrote, DL.w_did_wrote_b, DL.w_did_many, DL.w_did_many_b, DL.w_did_among, DL.w_did_among_b, DL.w_did_times, DL.w_did_times_b, DL.w_did_value, DL.w_did_value_b, DL.w_did_head, DL.w_did_head_b, DL.w_times_wrote, DL.w_times_wrote_b, DL.w_times_many, DL.w_times_many_b, DL.w_times_among, DL.w_times_among_b, DL.w_times_did, DL.w_times_did_b, DL.w_times_value, DL.w_times_value_b, DL.w_times_head, DL.w_times_head_b, DL.w_value_wrote, DL.w_value_wrote_b, DL.w_value_many, DL.w_value_many_b, DL.w_value_among, DL.w_value_among_b, DL.w_value_did, DL.w_value_did_b, DL.w_value_times, DL.w_value_times_b, DL.w_value_head, DL.w_value_head_b, DL.w_head_wrote, DL.w_head_wrote_b, DL.w_head_many, DL.w_head_many_b, DL.w_head_among, DL.w_head_among_b, DL.w_head_did, DL.w_head_did_b, DL.w_head_times, DL.w_head_times_b, DL.w_head_value, DL.w_head_value_b,
  DL.q_ss, DL.q_ii, DL.q_bb, DL.q_nn, DL.q_tt, DL.q_ll, DL.q_si, DL.q_sn, DL.q_st, DL.q_sl, DL.q_is, DL.q_in, DL.q_it, DL.q_il, DL.q_ns, DL.q_ni, DL.q_nt, DL.q_nl, DL.q_ts, DL.q_ti, DL.q_tn, DL.q_tl, DL.q_ls, DL.q_li, DL.q_ln, DL.q_lt, DL.qs_nil, DL.qs_cons, DL.qs_nc, DL.qs_cn, DL.p_t16, DL.p_l16, DL.p_t15, DL.p_l15, DL.p_t14, DL.p_l14, DL.p_t13, DL.p_l13, DL.p_t12, DL.p_l12, DL.p_s, DL.p_i, DL.p_b, DL.p_n, DL.ps_nil, DL.ps_cons, DL.t_b, DL.t_i, DL.t_l, DL.t_t, DL.t_n, DL.n_n, DL.n_i, DL.n_s, DL.n_t, DL.n_l, DL.n_b, DL.f_s, DL.f_i,
  Bool.false_and, Bool.and_false, DL.z0, DL.z1, DL.z2, DL.z3, DL.z4, DL.z5, DL.z6, DL.z12,
  DL.startD, DL.sFrz, DL.sApp, DL.yesD, DL.lcTurn, DL.wipeE, DL.at0, DL.at1, DL.at2, DL.at3, DL.at4, List.map_cons, List.map_nil, List.replicate_succ, List.replicate_zero, List.length_cons, List.length_nil, List.cons_append, List.nil_append, List.set_cons_zero, List.set_cons_succ, List.getElem?_cons_zero, List.getElem?_cons_succ, Option.some.injEq, exists_eq_left, exists_eq_left', exists_eq', exists_eq, true_and, and_true, decide_eq_true_eq, if_true, if_false, Bool.false_eq_true, reduceIte, Nat.reduceAdd, Nat.reduceSub, DL.D.bl.injEq, DL.D.int.injEq, DL.D.str.injEq, DL.D.tup.injEq, DL.D.lst.injEq, DL.D.ptr.injEq, Bool.not_true, Bool.not_false, beq_self_eq_true, List.all_cons, List.all_nil, List.any_cons, List.any_nil, Bool.and_true, Bool.true_and, Bool.or_false, Bool.false_or, Bool.or_true, Bool.true_or, Bool.false_xor, Bool.true_xor, beq_iff_eq, Bool.not_eq_true, Int.reduceEq, Int.reduceBEq, and_self])

namespace K41
open PySem L2 DL
inductive Pc where
  | wrote (v : Int) (ks : List Str) | many (v n : Int) | among (v : Int) (ks : List Str) | did (v : Int) (k : Str) | times (k : Str) (v n : Int) | value (k : Str) (n x : Int) | head (v : Int)
  deriving DecidableEq
def eKeys (ks : List Str) : D := .tup (ks.map .str)
def ePc : Pc → D
  | .wrote v ks => .tup [.str "wrote", .int v, eKeys ks]
  | .many v n => .tup [.str "many", .int v, .int n]
  | .among v ks => .tup [.str "among", .int v, eKeys ks]
  | .did v k => .tup [.str "did", .int v, .str k]
  | .times k v n => .tup [.str "times", .str k, .int v, .int n]
  | .value k n x => .tup [.str "value", .str k, .int n, .int x]
  | .head v => .tup [.str "head", .int v]
def eNews (ns : List Pc) : D := .lst (ns.map ePc)
def tS (t : Tk) : Str := ⟨t.t.toArray⟩
def isW (s : Str) (t : Tk) : Prop := t.k = "word" ∧ tS t = s
def isN (n lo hi : Int) (t : Tk) : Prop := t.k = "number" ∧ NumT t.t n ∧ lo ≤ n ∧ n ≤ hi
def isK (k : Str) (t : Tk) : Prop := t.k = "word" ∧ t.t.length ≤ 8 ∧ tS t = k
def isKs (ks : List Str) (ws : List Tk) : Prop := ws ≠ [] ∧ ws.length < 64 ∧ (∀ w ∈ ws, isKey w = true) ∧ SortedS ks ∧ ∀ k, k ∈ ks ↔ k ∈ ws.map tS
/-- the tokens that read as a piece -/
def PTok : Pc → List Tk → Prop
  | .wrote v ks, l => ∃ a b c ws, l = a :: b :: c :: ws ∧ isW "at" a ∧ isN v 1 20 b ∧ isW "wrote" c ∧ isKs ks ws
  | .among v ks, l => ∃ a b c ws, l = a :: b :: c :: ws ∧ isW "at" a ∧ isN v 1 20 b ∧ isW "among" c ∧ isKs ks ws
  | .many v n, l => ∃ a b c d, l = [a, b, c, d] ∧ isW "at" a ∧ isN v 1 20 b ∧ isW "many" c ∧ isN n 1 20 d
  | .did v k, l => ∃ a b c d, l = [a, b, c, d] ∧ isW "at" a ∧ isN v 1 20 b ∧ isW "did" c ∧ isK k d
  | .times k v n, l => ∃ a b c d e, l = [a, b, c, d, e] ∧ isW "by" a ∧ isN v 0 20 b ∧ isW "times" c ∧ isK k d ∧ isN n 0 20 e
  | .value k n x, l => ∃ a b c d e, l = [a, b, c, d, e] ∧ isW "write" a ∧ isN n 1 20 b ∧ isW "of" c ∧ isK k d ∧ isN x (-1000000) 1000000 e
  | .head v, l => ∃ a b, l = [a, b] ∧ isW "head" a ∧ isN v 0 20 b
theorem lt_irr (a : Str) : ¬ a.cps.toList < a.cps.toList := List.lt_irrefl _
theorem lt_asy {a b : Str} (h : a.cps.toList < b.cps.toList) : ¬ b.cps.toList < a.cps.toList := fun h' => lt_irr a (List.lt_trans h h')
theorem sorted_uniq : ∀ {l m : List Str}, SortedS l → SortedS m → (∀ k, k ∈ l ↔ k ∈ m) → l = m
  | [], [], _, _, _ => rfl
  | [], b :: m, _, _, h => by have := (h b).mpr (by simp); simp at this
  | a :: l, [], _, _, h => by have := (h a).mp (by simp); simp at this
  | a :: l, b :: m, hl, hm, h => by
    obtain ⟨l1, l2⟩ := List.pairwise_cons.mp hl
    obtain ⟨m1, m2⟩ := List.pairwise_cons.mp hm
    have e : a = b := by
      have ha := (h a).mp (by simp)
      have hb := (h b).mpr (by simp)
      rcases List.mem_cons.mp ha with e | ha
      · exact e
      · rcases List.mem_cons.mp hb with e | hb
        · exact e.symm
        · exact absurd (l1 b hb) (lt_asy (m1 a ha))
    subst e
    rw [sorted_uniq l2 m2 fun k => ?_]
    constructor
    · intro hk
      have := (h k).mp (by simp [hk])
      rcases List.mem_cons.mp this with e | hk'
      · subst e; exact absurd (l1 k hk) (lt_irr k)
      · exact hk'
    · intro hk
      have := (h k).mpr (by simp [hk])
      rcases List.mem_cons.mp this with e | hk'
      · subst e; exact absurd (m1 k hk) (lt_irr k)
      · exact hk'
theorem at_drop {ts a b : List Tk} {t : Tk} {i : Nat} (h : ts.drop i = a ++ t :: b) : ts[i + a.length]? = some t := by
  have h1 : (ts.drop i)[a.length]? = some t := by rw [h, List.getElem?_append_right (Nat.le_refl _)]; simp
  rw [List.getElem?_drop] at h1
  exact h1
theorem adv_adv {C r : Addr} {μ : Mu} {ts : List Tk} {i j : Nat} : adv C (adv C μ r ts i) r ts j = adv C μ r ts j := Mu.put_put
theorem rd_adv {C r : Addr} {μ : Mu} {ts : List Tk} {i : Nat} : RD C (adv C μ r ts i) r ts i := Mu.put_same
def isCom : Pc → Bool
  | .wrote _ _ => true
  | .many _ _ => true
  | .among _ _ => true
  | .did _ _ => true
  | _ => false
def C_read_commit (C : Addr) : CT := fun ds μ Q => match ds with
  | [.ptr r] => ∃ (q : Pc) (l : List Tk) (ts : List Tk) (i : Nat) (tk : Tk) (rest : List Tk), isCom q = true ∧ PTok q l ∧ RD C μ r ts (i + 1) ∧ ts.drop i = l ++ tk :: rest ∧ isKey tk = false ∧ Q (ePc q) (adv C μ r ts (i + l.length))
  | _ => False
def C_read_times (C : Addr) : CT := fun ds μ Q => match ds with
  | [.ptr r] => ∃ (q : Pc) (l : List Tk) (ts : List Tk) (i : Nat) (tk : Tk) (rest : List Tk), (∃ k v n, q = .times k v n) ∧ PTok q l ∧ RD C μ r ts (i + 1) ∧ ts.drop i = l ++ tk :: rest ∧ isKey tk = false ∧ Q (ePc q) (adv C μ r ts (i + l.length))
  | _ => False
def C_read_value (C : Addr) : CT := fun ds μ Q => match ds with
  | [.ptr r] => ∃ (q : Pc) (l : List Tk) (ts : List Tk) (i : Nat) (tk : Tk) (rest : List Tk), (∃ k v n, q = .value k v n) ∧ PTok q l ∧ RD C μ r ts (i + 1) ∧ ts.drop i = l ++ tk :: rest ∧ isKey tk = false ∧ Q (ePc q) (adv C μ r ts (i + l.length))
  | _ => False
def C_read_piece (C : Addr) : CT := fun ds μ Q => match ds with
  | [.ptr r] => ∃ (q : Pc) (l : List Tk) (ts : List Tk) (i : Nat) (tk : Tk) (rest : List Tk), True ∧ PTok q l ∧ RD C μ r ts (i + 0) ∧ ts.drop i = l ++ tk :: rest ∧ isKey tk = false ∧ Q (ePc q) (adv C μ r ts (i + l.length))
  | _ => False
section
variable {P : Program} {w : World} {K : PySem.W.Frag} {mg : Str → Option Value} {base : Heap}
theorem ok_read_commit (T : Tx K mg) : FnOk P w K mg base CX0 5 T.a_read_commit T.d_read_commit ["reader"] (spD K (C_read_commit T.C_Reader)) :=
  DL.Fun.okD (N := ["reader", "version", "word"]) T.F_read_commit sc_read_commit (fun cdv A outer s H E hr => 
      (dss_cons (ds_set 1 sc_read_commit.nd (de_meth T.cl_Reader T.mt_Reader_take_number (ok_Reader_take_number T) (hr.mono (by decide)) T.v_Reader_take_number pass0 (dv 0) (da_cons de_int (da_cons (de_globI rfl T.g_LAST_VERSION) da_nil)))) 
      (dss_cons (ds_set 2 sc_read_commit.nd (de_meth T.cl_Reader T.mt_Reader_take_word (ok_Reader_take_word T) (hr.mono (by decide)) T.v_Reader_take_word pass0 (dv 0) (da_cons (de_tup (da_cons (de_str) (da_cons (de_str) (da_cons (de_str) (da_cons (de_str) da_nil))))) da_nil))) 
      (dss_cons (ds_if (dt_cmp (op_eqD hr.units) od_eq (dv 2) (de_str) (nomark _)) 
      (dss_one (ds_ret (de_tup (da_cons (dv 2) (da_cons (dv 1) (da_cons (de_meth T.cl_Reader T.mt_Reader_take_number (ok_Reader_take_number T) (hr.mono (by decide)) T.v_Reader_take_number pass0 (dv 0) (da_cons de_int (da_cons (de_globI rfl T.g_MOST_WRITES) da_nil))) da_nil)))))) dss_nil) 
      (dss_cons (ds_if (dt_cmp (op_eqD hr.units) od_eq (dv 2) (de_str) (nomark _)) 
      (dss_one (ds_ret (de_tup (da_cons (dv 2) (da_cons (dv 1) (da_cons (de_meth0 T.cl_Reader T.mt_Reader_take_key (ok_Reader_take_key T) (hr.mono (by decide)) T.v_Reader_take_key pass0 (dv 0)) da_nil)))))) dss_nil) 
      (dss_one (ds_ret (de_tup (da_cons (dv 2) (da_cons (dv 1) (da_cons (de_meth0 T.cl_Reader T.mt_Reader_take_keys (ok_Reader_take_keys T) (hr.mono (by decide)) T.v_Reader_take_keys pass0 (dv 0)) da_nil)))))))))))
    (by intro ds μ Q h; unfold C_read_commit at h; split at h <;> first | rfl | exact h.elim) (by
  intro ds μ Q h
  unfold C_read_commit at h
  split at h
  · rename_i ds' r
    obtain ⟨q, l, ts, i, tk, rest, hc, hp, hr, hd, hk, hq⟩ := h
    (walk_at "dl")
    have no : ∀ (j : Nat) (m : Str), (m == "tokens") = false → (m == "passed") = false → (m == "beyond") = false → (flds ts j).lookup m = none := fun j m => l_no ts j
    cases q <;> simp only [isCom, Bool.false_eq_true] at hc
    · rename_i v ks
      obtain ⟨a, b, c, ws, rfl, ha, hb, hcc, hks⟩ := hp
      have t1 : ts[i + 1]? = some b := at_drop (a := [a]) hd
      have t2 : ts[i + 2]? = some c := at_drop (a := [a, b]) hd
      refine ⟨r, _, rfl, hr, no _ _ (by decide +kernel) (by decide +kernel) (by decide +kernel), ts, i + 1, b, v, hr, t1, hb.1, hb.2.1, hb.2.2.1, hb.2.2.2, ?_⟩
      (walk_at "dl")
      refine ⟨r, _, rfl, rd_adv, no _ _ (by decide +kernel) (by decide +kernel) (by decide +kernel), ts, i + 2, c, ["wrote", "many", "among", "did"], rd_adv, t2, rfl, hcc.1, by rw [show (⟨c.t.toArray⟩ : Str) = "wrote" from hcc.2]; simp, ?_⟩
      rw [show (⟨c.t.toArray⟩ : Str) = "wrote" from hcc.2, adv_adv]
      (walk_at "dl")
      refine ⟨r, _, rfl, rd_adv, no _ _ (by decide +kernel) (by decide +kernel) (by decide +kernel), ts, i + 3, ws, rest, tk, rd_adv, ?_, hks.1, hks.2.1, hks.2.2.1, hk, fun ys hs hm => ?_⟩
      · rw [← List.drop_drop, hd]; rfl
      · have ey : ys = ks := sorted_uniq hs hks.2.2.2.1 fun k => (hm k).trans (hks.2.2.2.2 k).symm
        subst ey
        rw [adv_adv]
        have e : i + 3 + ws.length = i + (a :: b :: c :: ws).length := by simp; omega
        rw [e]
        exact hq
    · rename_i v n
      obtain ⟨a, b, c, d, rfl, ha, hb, hcc, hdd⟩ := hp
      have t1 : ts[i + 1]? = some b := at_drop (a := [a]) hd
      have t2 : ts[i + 2]? = some c := at_drop (a := [a, b]) hd
      refine ⟨r, _, rfl, hr, no _ _ (by decide +kernel) (by decide +kernel) (by decide +kernel), ts, i + 1, b, v, hr, t1, hb.1, hb.2.1, hb.2.2.1, hb.2.2.2, ?_⟩
      (walk_at "dl")
      refine ⟨r, _, rfl, rd_adv, no _ _ (by decide +kernel) (by decide +kernel) (by decide +kernel), ts, i + 2, c, ["wrote", "many", "among", "did"], rd_adv, t2, rfl, hcc.1, by rw [show (⟨c.t.toArray⟩ : Str) = "many" from hcc.2]; simp, ?_⟩
      rw [show (⟨c.t.toArray⟩ : Str) = "many" from hcc.2, adv_adv]
      have t3 : ts[i + 3]? = some d := at_drop (a := [a, b, c]) hd
      (walk_at "dl")
      refine ⟨r, _, rfl, rd_adv, no _ _ (by decide +kernel) (by decide +kernel) (by decide +kernel), ts, i + 3, d, n, rd_adv, t3, hdd.1, hdd.2.1, hdd.2.2.1, hdd.2.2.2, ?_⟩
      rw [adv_adv]
      exact hq
    · rename_i v ks
      obtain ⟨a, b, c, ws, rfl, ha, hb, hcc, hks⟩ := hp
      have t1 : ts[i + 1]? = some b := at_drop (a := [a]) hd
      have t2 : ts[i + 2]? = some c := at_drop (a := [a, b]) hd
      refine ⟨r, _, rfl, hr, no _ _ (by decide +kernel) (by decide +kernel) (by decide +kernel), ts, i + 1, b, v, hr, t1, hb.1, hb.2.1, hb.2.2.1, hb.2.2.2, ?_⟩
      (walk_at "dl")
      refine ⟨r, _, rfl, rd_adv, no _ _ (by decide +kernel) (by decide +kernel) (by decide +kernel), ts, i + 2, c, ["wrote", "many", "among", "did"], rd_adv, t2, rfl, hcc.1, by rw [show (⟨c.t.toArray⟩ : Str) = "among" from hcc.2]; simp, ?_⟩
      rw [show (⟨c.t.toArray⟩ : Str) = "among" from hcc.2, adv_adv]
      (walk_at "dl")
      refine ⟨r, _, rfl, rd_adv, no _ _ (by decide +kernel) (by decide +kernel) (by decide +kernel), ts, i + 3, ws, rest, tk, rd_adv, ?_, hks.1, hks.2.1, hks.2.2.1, hk, fun ys hs hm => ?_⟩
      · rw [← List.drop_drop, hd]; rfl
      · have ey : ys = ks := sorted_uniq hs hks.2.2.2.1 fun k => (hm k).trans (hks.2.2.2.2 k).symm
        subst ey
        rw [adv_adv]
        have e : i + 3 + ws.length = i + (a :: b :: c :: ws).length := by simp; omega
        rw [e]
        exact hq
    · rename_i v k
      obtain ⟨a, b, c, d, rfl, ha, hb, hcc, hdd⟩ := hp
      have t1 : ts[i + 1]? = some b := at_drop (a := [a]) hd
      have t2 : ts[i + 2]? = some c := at_drop (a := [a, b]) hd
      refine ⟨r, _, rfl, hr, no _ _ (by decide +kernel) (by decide +kernel) (by decide +kernel), ts, i + 1, b, v, hr, t1, hb.1, hb.2.1, hb.2.2.1, hb.2.2.2, ?_⟩
      (walk_at "dl")
      refine ⟨r, _, rfl, rd_adv, no _ _ (by decide +kernel) (by decide +kernel) (by decide +kernel), ts, i + 2, c, ["wrote", "many", "among", "did"], rd_adv, t2, rfl, hcc.1, by rw [show (⟨c.t.toArray⟩ : Str) = "did" from hcc.2]; simp, ?_⟩
      rw [show (⟨c.t.toArray⟩ : Str) = "did" from hcc.2, adv_adv]
      have t3 : ts[i + 3]? = some d := at_drop (a := [a, b, c]) hd
      (walk_at "dl")
      refine ⟨r, _, rfl, rd_adv, no _ _ (by decide +kernel) (by decide +kernel) (by decide +kernel), ts, i + 3, d, rd_adv, t3, hdd.1, hdd.2.1, ?_⟩
      rw [adv_adv, show (⟨d.t.toArray⟩ : Str) = k from hdd.2.2]
      exact hq
  · exact h.elim
)

theorem ok_read_times (T : Tx K mg) : FnOk P w K mg base CX0 4 T.a_read_times T.d_read_times ["reader"] (spD K (C_read_times T.C_Reader)) :=
  DL.Fun.okD (N := ["reader", "version", "word", "key"]) T.F_read_times sc_read_times (fun cdv A outer s H E hr => 
      (dss_cons (ds_set 1 sc_read_times.nd (de_meth T.cl_Reader T.mt_Reader_take_number (ok_Reader_take_number T) (hr.mono (by decide)) T.v_Reader_take_number pass0 (dv 0) (da_cons de_int (da_cons (de_globI rfl T.g_LAST_VERSION) da_nil)))) 
      (dss_cons (ds_set 2 sc_read_times.nd (de_meth T.cl_Reader T.mt_Reader_take_word (ok_Reader_take_word T) (hr.mono (by decide)) T.v_Reader_take_word pass0 (dv 0) (da_cons (de_tup (da_cons (de_str) da_nil)) da_nil))) 
      (dss_cons (ds_set 3 sc_read_times.nd (de_meth0 T.cl_Reader T.mt_Reader_take_key (ok_Reader_take_key T) (hr.mono (by decide)) T.v_Reader_take_key pass0 (dv 0))) 
      (dss_one (ds_ret (de_tup (da_cons (dv 2) (da_cons (dv 3) (da_cons (dv 1) (da_cons (de_meth T.cl_Reader T.mt_Reader_take_number (ok_Reader_take_number T) (hr.mono (by decide)) T.v_Reader_take_number pass0 (dv 0) (da_cons de_int (da_cons (de_globI rfl T.g_MOST_WRITES) da_nil))) da_nil)))))))))))
    (by intro ds μ Q h; unfold C_read_times at h; split at h <;> first | rfl | exact h.elim) (by
  intro ds μ Q h
  unfold C_read_times at h
  split at h
  · rename_i ds' r
    obtain ⟨q, l, ts, i, tk, rest, hc, hp, hr, hd, hk, hq⟩ := h
    (walk_at "dl")
    have no : ∀ (j : Nat) (m : Str), (m == "tokens") = false → (m == "passed") = false → (m == "beyond") = false → (flds ts j).lookup m = none := fun j m => l_no ts j
    obtain ⟨k, v, n, rfl⟩ := hc
    obtain ⟨a, b, c, d, e, rfl, ha, hb, hcc, hdd, hee⟩ := hp
    have t1 : ts[i + 1]? = some b := at_drop (a := [a]) hd
    have t2 : ts[i + 2]? = some c := at_drop (a := [a, b]) hd
    have t3 : ts[i + 3]? = some d := at_drop (a := [a, b, c]) hd
    have t4 : ts[i + 4]? = some e := at_drop (a := [a, b, c, d]) hd
    refine ⟨r, _, rfl, hr, no _ _ (by decide +kernel) (by decide +kernel) (by decide +kernel), ts, i + 1, b, v, hr, t1, hb.1, hb.2.1, hb.2.2.1, hb.2.2.2, ?_⟩
    (walk_at "dl")
    refine ⟨r, _, rfl, rd_adv, no _ _ (by decide +kernel) (by decide +kernel) (by decide +kernel), ts, i + 2, c, ["times"], rd_adv, t2, rfl, hcc.1, by rw [show (⟨c.t.toArray⟩ : Str) = "times" from hcc.2]; simp, ?_⟩
    rw [show (⟨c.t.toArray⟩ : Str) = "times" from hcc.2, adv_adv]
    (walk_at "dl")
    refine ⟨r, _, rfl, rd_adv, no _ _ (by decide +kernel) (by decide +kernel) (by decide +kernel), ts, i + 3, d, rd_adv, t3, hdd.1, hdd.2.1, ?_⟩
    rw [adv_adv, show (⟨d.t.toArray⟩ : Str) = k from hdd.2.2]
    (walk_at "dl")
    refine ⟨r, _, rfl, rd_adv, no _ _ (by decide +kernel) (by decide +kernel) (by decide +kernel), ts, i + 4, e, n, rd_adv, t4, hee.1, hee.2.1, hee.2.2.1, hee.2.2.2, ?_⟩
    rw [adv_adv]
    exact hq
  · exact h.elim
)

theorem ok_read_value (T : Tx K mg) : FnOk P w K mg base CX0 4 T.a_read_value T.d_read_value ["reader"] (spD K (C_read_value T.C_Reader)) :=
  DL.Fun.okD (N := ["reader", "number", "key"]) T.F_read_value sc_read_value (fun cdv A outer s H E hr => 
      (dss_cons (ds_set 1 sc_read_value.nd (de_meth T.cl_Reader T.mt_Reader_take_number (ok_Reader_take_number T) (hr.mono (by decide)) T.v_Reader_take_number pass0 (dv 0) (da_cons de_int (da_cons (de_globI rfl T.g_MOST_WRITES) da_nil)))) 
      (dss_cons (ds_expr (de_meth T.cl_Reader T.mt_Reader_take_word (ok_Reader_take_word T) (hr.mono (by decide)) T.v_Reader_take_word pass0 (dv 0) (da_cons (de_tup (da_cons (de_str) da_nil)) da_nil))) 
      (dss_cons (ds_set 2 sc_read_value.nd (de_meth0 T.cl_Reader T.mt_Reader_take_key (ok_Reader_take_key T) (hr.mono (by decide)) T.v_Reader_take_key pass0 (dv 0))) 
      (dss_one (ds_ret (de_tup (da_cons (de_str) (da_cons (dv 2) (da_cons (dv 1) (da_cons (de_meth T.cl_Reader T.mt_Reader_take_number (ok_Reader_take_number T) (hr.mono (by decide)) T.v_Reader_take_number pass0 (dv 0) (da_cons (de_neg (de_globI rfl T.g_FARTHEST_VALUE)) (da_cons (de_globI rfl T.g_FARTHEST_VALUE) da_nil))) da_nil)))))))))))
    (by intro ds μ Q h; unfold C_read_value at h; split at h <;> first | rfl | exact h.elim) (by
  intro ds μ Q h
  unfold C_read_value at h
  split at h
  · rename_i ds' r
    obtain ⟨q, l, ts, i, tk, rest, hc, hp, hr, hd, hk, hq⟩ := h
    (walk_at "dl")
    have no : ∀ (j : Nat) (m : Str), (m == "tokens") = false → (m == "passed") = false → (m == "beyond") = false → (flds ts j).lookup m = none := fun j m => l_no ts j
    obtain ⟨k, n, x, rfl⟩ := hc
    obtain ⟨a, b, c, d, e, rfl, ha, hb, hcc, hdd, hee⟩ := hp
    have t1 : ts[i + 1]? = some b := at_drop (a := [a]) hd
    have t2 : ts[i + 2]? = some c := at_drop (a := [a, b]) hd
    have t3 : ts[i + 3]? = some d := at_drop (a := [a, b, c]) hd
    have t4 : ts[i + 4]? = some e := at_drop (a := [a, b, c, d]) hd
    refine ⟨r, _, rfl, hr, no _ _ (by decide +kernel) (by decide +kernel) (by decide +kernel), ts, i + 1, b, n, hr, t1, hb.1, hb.2.1, hb.2.2.1, hb.2.2.2, ?_⟩
    (walk_at "dl")
    refine ⟨r, _, rfl, rd_adv, no _ _ (by decide +kernel) (by decide +kernel) (by decide +kernel), ts, i + 2, c, ["of"], rd_adv, t2, rfl, hcc.1, by rw [show (⟨c.t.toArray⟩ : Str) = "of" from hcc.2]; simp, ?_⟩
    rw [adv_adv]
    (walk_at "dl")
    refine ⟨r, _, rfl, rd_adv, no _ _ (by decide +kernel) (by decide +kernel) (by decide +kernel), ts, i + 3, d, rd_adv, t3, hdd.1, hdd.2.1, ?_⟩
    rw [adv_adv, show (⟨d.t.toArray⟩ : Str) = k from hdd.2.2]
    (walk_at "dl")
    refine ⟨r, _, rfl, rd_adv, no _ _ (by decide +kernel) (by decide +kernel) (by decide +kernel), ts, i + 4, e, x, rd_adv, t4, hee.1, hee.2.1, hee.2.2.1, hee.2.2.2, ?_⟩
    rw [adv_adv]
    exact hq
  · exact h.elim
)

theorem ok_read_piece (T : Tx K mg) : FnOk P w K mg base CX0 6 T.a_read_piece T.d_read_piece ["reader"] (spD K (C_read_piece T.C_Reader)) :=
  DL.Fun.okD (N := ["reader", "word"]) T.F_read_piece sc_read_piece (fun cdv A outer s H E hr => 
      (dss_cons (ds_set 1 sc_read_piece.nd (de_meth T.cl_Reader T.mt_Reader_take_word (ok_Reader_take_word T) (hr.mono (by decide)) T.v_Reader_take_word pass0 (dv 0) (da_cons (de_tup (da_cons (de_str) (da_cons (de_str) (da_cons (de_str) (da_cons (de_str) da_nil))))) da_nil))) 
      (dss_cons (ds_if (dt_cmp (op_eqD hr.units) od_eq (dv 1) (de_str) (nomark _)) 
      (dss_one (ds_ret (de_call (ok_read_commit T) (hr.mono (by decide)) (by rfl) T.m_read_commit T.k_read_commit T.v_read_commit pass0 (da_cons (dv 0) da_nil)))) dss_nil) 
      (dss_cons (ds_if (dt_cmp (op_eqD hr.units) od_eq (dv 1) (de_str) (nomark _)) 
      (dss_one (ds_ret (de_call (ok_read_times T) (hr.mono (by decide)) (by rfl) T.m_read_times T.k_read_times T.v_read_times pass0 (da_cons (dv 0) da_nil)))) dss_nil) 
      (dss_cons (ds_if (dt_cmp (op_eqD hr.units) od_eq (dv 1) (de_str) (nomark _)) 
      (dss_one (ds_ret (de_call (ok_read_value T) (hr.mono (by decide)) (by rfl) T.m_read_value T.k_read_value T.v_read_value pass0 (da_cons (dv 0) da_nil)))) dss_nil) 
      (dss_one (ds_ret (de_tup (da_cons (dv 1) (da_cons (de_meth T.cl_Reader T.mt_Reader_take_number (ok_Reader_take_number T) (hr.mono (by decide)) T.v_Reader_take_number pass0 (dv 0) (da_cons de_int (da_cons (de_globI rfl T.g_LAST_VERSION) da_nil))) da_nil))))))))))
    (by intro ds μ Q h; unfold C_read_piece at h; split at h <;> first | rfl | exact h.elim) (by
  intro ds μ Q h
  unfold C_read_piece at h
  split at h
  · rename_i ds' r
    obtain ⟨q, l, ts, i, tk, rest, hc, hp, hr, hd, hk, hq⟩ := h
    (walk_at "dl")
    have no : ∀ (j : Nat) (m : Str), (m == "tokens") = false → (m == "passed") = false → (m == "beyond") = false → (flds ts j).lookup m = none := fun j m => l_no ts j
    have hp0 := hp
    cases q
    · rename_i v ks
      obtain ⟨a, b, c, ws, rfl, ha, _⟩ := hp
      have t0 : ts[i]? = some a := at_drop (a := []) hd
      refine ⟨r, _, rfl, hr, no _ _ (by decide +kernel) (by decide +kernel) (by decide +kernel), ts, i, a, ["at", "by", "write", "head"], hr, t0, rfl, ha.1, by rw [show (⟨a.t.toArray⟩ : Str) = "at" from ha.2]; simp, ?_⟩
      rw [show (⟨a.t.toArray⟩ : Str) = "at" from ha.2]
      (walk_at "dl")
      exact ⟨_, _, ts, i, tk, rest, rfl, hp0, rd_adv, hd, hk, by rw [adv_adv]; exact hq⟩
    · rename_i v n
      obtain ⟨a, b, c, d, rfl, ha, _⟩ := hp
      have t0 : ts[i]? = some a := at_drop (a := []) hd
      refine ⟨r, _, rfl, hr, no _ _ (by decide +kernel) (by decide +kernel) (by decide +kernel), ts, i, a, ["at", "by", "write", "head"], hr, t0, rfl, ha.1, by rw [show (⟨a.t.toArray⟩ : Str) = "at" from ha.2]; simp, ?_⟩
      rw [show (⟨a.t.toArray⟩ : Str) = "at" from ha.2]
      (walk_at "dl")
      exact ⟨_, _, ts, i, tk, rest, rfl, hp0, rd_adv, hd, hk, by rw [adv_adv]; exact hq⟩
    · rename_i v ks
      obtain ⟨a, b, c, ws, rfl, ha, _⟩ := hp
      have t0 : ts[i]? = some a := at_drop (a := []) hd
      refine ⟨r, _, rfl, hr, no _ _ (by decide +kernel) (by decide +kernel) (by decide +kernel), ts, i, a, ["at", "by", "write", "head"], hr, t0, rfl, ha.1, by rw [show (⟨a.t.toArray⟩ : Str) = "at" from ha.2]; simp, ?_⟩
      rw [show (⟨a.t.toArray⟩ : Str) = "at" from ha.2]
      (walk_at "dl")
      exact ⟨_, _, ts, i, tk, rest, rfl, hp0, rd_adv, hd, hk, by rw [adv_adv]; exact hq⟩
    · rename_i v k
      obtain ⟨a, b, c, d, rfl, ha, _⟩ := hp
      have t0 : ts[i]? = some a := at_drop (a := []) hd
      refine ⟨r, _, rfl, hr, no _ _ (by decide +kernel) (by decide +kernel) (by decide +kernel), ts, i, a, ["at", "by", "write", "head"], hr, t0, rfl, ha.1, by rw [show (⟨a.t.toArray⟩ : Str) = "at" from ha.2]; simp, ?_⟩
      rw [show (⟨a.t.toArray⟩ : Str) = "at" from ha.2]
      (walk_at "dl")
      exact ⟨_, _, ts, i, tk, rest, rfl, hp0, rd_adv, hd, hk, by rw [adv_adv]; exact hq⟩
    · rename_i k v n
      obtain ⟨a, b, c, d, e, rfl, ha, _⟩ := hp
      have t0 : ts[i]? = some a := at_drop (a := []) hd
      refine ⟨r, _, rfl, hr, no _ _ (by decide +kernel) (by decide +kernel) (by decide +kernel), ts, i, a, ["at", "by", "write", "head"], hr, t0, rfl, ha.1, by rw [show (⟨a.t.toArray⟩ : Str) = "by" from ha.2]; simp, ?_⟩
      rw [show (⟨a.t.toArray⟩ : Str) = "by" from ha.2]
      (walk_at "dl")
      rw [if_neg (by decide +kernel)]
      exact ⟨_, _, ts, i, tk, rest, ⟨_, _, _, rfl⟩, hp0, rd_adv, hd, hk, by rw [adv_adv]; exact hq⟩
    · rename_i k n x
      obtain ⟨a, b, c, d, e, rfl, ha, _⟩ := hp
      have t0 : ts[i]? = some a := at_drop (a := []) hd
      refine ⟨r, _, rfl, hr, no _ _ (by decide +kernel) (by decide +kernel) (by decide +kernel), ts, i, a, ["at", "by", "write", "head"], hr, t0, rfl, ha.1, by rw [show (⟨a.t.toArray⟩ : Str) = "write" from ha.2]; simp, ?_⟩
      rw [show (⟨a.t.toArray⟩ : Str) = "write" from ha.2]
      (walk_at "dl")
      rw [if_neg (by decide +kernel)]
      rw [if_neg (by decide +kernel)]
      exact ⟨_, _, ts, i, tk, rest, ⟨_, _, _, rfl⟩, hp0, rd_adv, hd, hk, by rw [adv_adv]; exact hq⟩
    · rename_i v
      obtain ⟨a, b, rfl, ha, hb⟩ := hp
      have t0 : ts[i]? = some a := at_drop (a := []) hd
      refine ⟨r, _, rfl, hr, no _ _ (by decide +kernel) (by decide +kernel) (by decide +kernel), ts, i, a, ["at", "by", "write", "head"], hr, t0, rfl, ha.1, by rw [show (⟨a.t.toArray⟩ : Str) = "head" from ha.2]; simp, ?_⟩
      rw [show (⟨a.t.toArray⟩ : Str) = "head" from ha.2]
      (walk_at "dl")
      have t1 : ts[i + 1]? = some b := at_drop (a := [a]) hd
      rw [if_neg (by decide +kernel), if_neg (by decide +kernel), if_neg (by decide +kernel)]
      refine ⟨r, _, rfl, rd_adv, no _ _ (by decide +kernel) (by decide +kernel) (by decide +kernel), ts, i + 1, b, v, rd_adv, t1, hb.1, hb.2.1, hb.2.2.1, hb.2.2.2, ?_⟩
      rw [adv_adv]
      exact hq
  · exact h.elim
)

end
end K41
end

-- part A5
section
local macro_rules | `(tactic| walk_at "dl") => `(tactic| simp only [DL.sRet, DL.dJoined, DL.dJs, DL.dFmt, DL.dFld, DL.dMeth, DL.dMake, DL.sFld, DL.sFldI, DL.sSeq, DL.sSet, DL.sIf, DL.sNext, DL.sNever, DL.sDrop, DL.sAsg, DL.sRetN, DL.dVar, DL.dC, DL.dOp, DL.dTest, DL.dAnd, DL.dOr, DL.dNot, DL.dTru, DL.dAndV, DL.dOrV, DL.dNotV, DL.dIf, DL.aNil, DL.aCons, DL.dTup, DL.dLst, DL.dLstM, DL.dCall, DL.dFrz, DL.dB, DL.dNeg, DL.dSl, DL.oNone, DL.oSome, DL.dChn, DL.gN, DL.gT, DL.setAll,
  DL.ix_l, DL.ix_t, DL.ix_s, DL.ix_p, DL.add_i, DL.add_s, DL.add_l, DL.add_t, DL.mul_i, DL.mul_b, DL.sub_i, DL.fdiv_i, DL.mod_i, DL.pow_i, DL.shl_i, DL.shr_i, DL.and_i, DL.lt_i, DL.le_i, DL.gt_i, DL.ge_i, DL.le_s, DL.in_t, DL.in_l, DL.in_s, DL.len_l, DL.len_t, DL.len_s, DL.len_p, DL.list_l, DL.list_t, DL.list_s, DL.list_p, DL.tuple_l, DL.tuple_t, DL.int_i, DL.int_b, DL.abs_i, DL.max_i, DL.min_i, DL.all_l, DL.any_l, DL.isi_1, DL.isi_n, DL.sl_l, DL.sl_t, DL.sl_s, DL.neg_i, DL.isN_i, DL.notN_i, DL.eq_x, DL.ne_x,
  DL.w_wrote_many, DL.w_wrote_many_b, DL.w_wrote_among, DL.w_wrote_among_b, DL.w_wrote_did, DL.w_wrote_did_b, DL.w_wrote_times, DL.w_wrote_times_b, DL.w_wrote_value, DL.w_wrote_value_b, DL.w_wrote_head, DL.w_wrote_head_b, DL.w_many_wrote, DL.w_many_wrote_b, DL.w_many_among, DL.w_many_among_b, DL.w_many_did, DL.w_many_did_b, DL.w_many_times, DL.w_many_times_b, DL.w_many_value, DL.w_many_value_b, DL.w_many_head, DL.w_many_head_b, DL.w_among_wrote, DL.w_among_wrote_b, DL.w_among_many, DL.w_among_many_b, DL.w_among_did, DL.w_among_did_b, DL.w_among_times, DL.w_among_times_b, DL.w_among_value, DL.w_among_value_b, DL.w_among_head, DL.w_among_head_b, DL.w_did_wrote, DL.w_did_wrote_b, DL.w_did_many, DL.w_did_many_b, DL.w_did_among, DL.w_did_among_b, DL.w_did_times, DL.w_did_times_b, DL.w_did_value, DL.w_did_value_b, DL.w_did_head, DL.w_did_head_b, DL.w_times_wrote, DL.w_times_wrote_b, DL.w_times_many, DL.w_times_many_b, DL.w_times_among, DL.w_times_among_b, DL.w_times_did, DL.w_times_did_b, DL.w_times_value, DL.w_times_value_b, DL.w_times_head, DL.w_times_head_b, DL.w_value_wrote, DL.w_value_wrote_b, DL.w_value_many, DL.w_value_many_b, DL.w_value_among, DL.w_value_among_b, DL.w_value_did, DL.w_value_did_b, DL.w_value_times, DL.w_value_times_b, DL.w_value_head, DL.w_value_head_b, DL.w_head_wrote, DL.w_head_wrote_b, DL.w_head_many, DL.w_head_many_b, DL.w_head_among, DL.w_head_among_b, DL.w_head_did, DL.w_head_did_b, DL.w_head_times, DL.w_head_times_b, DL.w_head_value, DL.w_head_value_b,
  DL.q_ss, DL.q_ii, DL.q_bb, DL.q_nn, DL.q_tt, DL.q_ll, DL.q_si, DL.q_sn, DL.q_st, DL.q_sl, DL.q_is, DL.q_in, DL.q_it, DL.q_il, DL.q_ns, DL.q_ni, DL.q_nt, DL.q_nl, DL.q_ts, DL.q_ti, DL.q_tn, DL.q_tl, DL.q_ls, DL.q_li, DL.q_ln, DL.q_lt, DL.qs_nil, DL.qs_cons, DL.qs_nc, DL.qs_cn, DL.p_t16, DL.p_l16, DL.p_t15, DL.p_l15, DL.p_t14, DL.p_l14, DL.p_t13, DL.p_l13, DL.p_t12, DL.p_l12, DL.p_s, DL.p_i, DL.p_b, DL.p_n, DL.ps_nil, DL.ps_cons, DL.t_b, DL.t_i, DL.t_l, DL.t_t, DL.t_n, DL.n_n, DL.n_i, DL.n_s, DL.n_t, DL.n_l, DL.n_b, DL.f_s, DL.f_i,
  Bool.false_and, Bool.and_false, DL.z0, DL.z1, DL.z2, DL.z3, DL.z4, DL.z5, DL.z6, DL.z12,
  DL.startD, DL.sFrz, DL.sApp, DL.yesD, DL.lcTurn, DL.wipeE, DL.at0, DL.at1, DL.at2, DL.at3, DL.at4, List.map_cons, List.map_nil, List.replicate_succ, List.replicate_zero, List.length_cons, List.length_nil, List.cons_append, List.nil_append, List.set_cons_zero, List.set_cons_succ, List.getElem?_cons_zero, List.getElem?_cons_succ, Option.some.injEq, exists_eq_left, exists_eq_left', exists_eq', exists_eq, true_and, and_true, decide_eq_true_eq, if_true, if_false, Bool.false_eq_true, reduceIte, Nat.reduceAdd, Nat.reduceSub, DL.D.bl.injEq, DL.D.int.injEq, DL.D.str.injEq, DL.D.tup.injEq, DL.D.lst.injEq, DL.D.ptr.injEq, Bool.not_true, Bool.not_false, beq_self_eq_true, List.all_cons, List.all_nil, List.any_cons, List.any_nil, Bool.and_true, Bool.true_and, Bool.or_false, Bool.false_or, Bool.or_true, Bool.true_or, Bool.false_xor, Bool.true_xor, beq_iff_eq, Bool.not_eq_true, Int.reduceEq, Int.reduceBEq, and_self])

namespace K41
open PySem L2 DL
/-- the tokens of one piece or more, with the end -/
inductive NTok : List Pc → List Tk → Prop
  | one {q : Pc} {l : List Tk} {e : Tk} (h : PTok q l) (he : e.k = "end") : NTok [q] (l ++ [e])
  | more {q : Pc} {l : List Tk} {s : Tk} {ns : List Pc} {ts : List Tk} (h : PTok q l) (hs : s.k = "separator") (r : NTok ns ts) : NTok (q :: ns) (l ++ s :: ts)
def NT (ns : List Pc) (ts : List Tk) : Prop := (ns = [] ∧ ∃ e, ts = [e] ∧ e.k = "end") ∨ NTok ns ts
theorem word_first {q : Pc} {l : List Tk} (h : PTok q l) : ∃ a l', l = a :: l' ∧ a.k = "word" := by
  cases q
  · obtain ⟨a, b, c, ws, rfl, ha, _⟩ := h; exact ⟨a, _, rfl, ha.1⟩
  · obtain ⟨a, b, c, d, rfl, ha, _⟩ := h; exact ⟨a, _, rfl, ha.1⟩
  · obtain ⟨a, b, c, ws, rfl, ha, _⟩ := h; exact ⟨a, _, rfl, ha.1⟩
  · obtain ⟨a, b, c, d, rfl, ha, _⟩ := h; exact ⟨a, _, rfl, ha.1⟩
  · obtain ⟨a, b, c, d, e, rfl, ha, _⟩ := h; exact ⟨a, _, rfl, ha.1⟩
  · obtain ⟨a, b, c, d, e, rfl, ha, _⟩ := h; exact ⟨a, _, rfl, ha.1⟩
  · obtain ⟨a, b, rfl, ha, _⟩ := h; exact ⟨a, _, rfl, ha.1⟩
theorem end_key {t : Tk} (h : t.k = "end") : isKey t = false := by unfold isKey; rw [h]; rfl
theorem sep_key {t : Tk} (h : t.k = "separator") : isKey t = false := by unfold isKey; rw [h]; rfl
/-- what stands behind a piece -/
def Aft (ns : List Pc) (l : List Tk) : Prop := (ns = [] ∧ ∃ e, l = [e] ∧ e.k = "end") ∨ ∃ s ts, l = s :: ts ∧ s.k = "separator" ∧ NTok ns ts
theorem NTok.aft {ns : List Pc} {ts : List Tk} (h : NTok ns ts) : ∃ q l ns' rest, ns = q :: ns' ∧ ts = l ++ rest ∧ PTok q l ∧ Aft ns' rest := by
  cases h with
  | one h he => exact ⟨_, _, [], _, rfl, rfl, h, Or.inl ⟨rfl, _, rfl, he⟩⟩
  | more h hs r => exact ⟨_, _, _, _, rfl, rfl, h, Or.inr ⟨_, _, rfl, hs, r⟩⟩
theorem Aft.cons {ns : List Pc} {l : List Tk} (h : Aft ns l) : ∃ t r, l = t :: r ∧ isKey t = false := by
  rcases h with ⟨_, e, rfl, he⟩ | ⟨s, ts, rfl, hs, _⟩
  · exact ⟨e, [], rfl, end_key he⟩
  · exact ⟨s, ts, rfl, sep_key hs⟩
def C_read_pieces (C : Addr) : CT := fun ds μ Q => match ds with
  | [.ptr r] => ∃ (ns : List Pc) (ts : List Tk), NT ns ts ∧ ns.length ≤ 40 ∧ RD C μ r ts 0 ∧ ∀ j, Q (eNews ns) (adv C μ r ts j)
  | _ => False
def C_parse_news : CT := fun ds μ Q => match ds with
  | [.str t] => ∃ (ns : List Pc) (ts : List Tk), Lay false 0 t.cps.toList ts ∧ t.length ≤ 9000 ∧ NT ns ts ∧ ns.length ≤ 40 ∧ Q (eNews ns) μ
  | _ => False
section
variable {P : Program} {w : World} {K : PySem.W.Frag} {mg : Str → Option Value} {base : Heap}
theorem ok_read_pieces (T : Tx K mg) : FnOk P w K mg base CX0 7 T.a_read_pieces T.d_read_pieces ["reader"] (spD K (C_read_pieces T.C_Reader)) :=
  DL.Fun.okD (N := ["reader", "news"]) T.F_read_pieces sc_read_pieces (fun cdv A outer s H E hr => 
      (dss_cons (ds_if (dt_tru (de_meth T.cl_Reader T.mt_Reader_sees (ok_Reader_sees T) (hr.mono (by decide)) T.v_Reader_sees pass0 (dv 0) (da_cons (de_globS rfl T.g_END) da_nil))) 
      (dss_one (ds_ret (de_lst da_nil))) dss_nil) 
      (dss_cons (ds_set 1 sc_read_pieces.nd (de_lstM (da_cons (de_call (ok_read_piece T) (hr.mono (by decide)) (by rfl) T.m_read_piece T.k_read_piece T.v_read_piece pass0 (da_cons (dv 0) da_nil)) da_nil))) 
      (dss_cons (ds_while PassesOwn.never (dt_not (dt_tru (de_meth T.cl_Reader T.mt_Reader_sees (ok_Reader_sees T) (hr.mono (by decide)) T.v_Reader_sees pass0 (dv 0) (da_cons (de_globS rfl T.g_END) da_nil)))) 
      (dss_cons (ds_expr (de_meth T.cl_Reader T.mt_Reader_take (ok_Reader_take T) (hr.mono (by decide)) T.v_Reader_take pass0 (dv 0) (da_cons (de_meth T.cl_Reader T.mt_Reader_sees (ok_Reader_sees T) (hr.mono (by decide)) T.v_Reader_sees pass0 (dv 0) (da_cons (de_globS rfl T.g_SEPARATOR) da_nil)) da_nil))) 
      (dss_one (ds_app (dv 1) (de_call (ok_read_piece T) (hr.mono (by decide)) (by rfl) T.m_read_piece T.k_read_piece T.v_read_piece pass0 (da_cons (dv 0) da_nil)))))) 
      (dss_frz 1 (dss_one (ds_ret (dv 1))))))))
    (by intro ds μ Q h; unfold C_read_pieces at h; split at h <;> first | rfl | exact h.elim) (by
  intro ds μ Q h
  unfold C_read_pieces at h
  split at h
  · rename_i ds' r
    obtain ⟨ns, ts, hnt, hl, hr, hq⟩ := h
    have no : ∀ (j : Nat) (m : Str), (m == "tokens") = false → (m == "passed") = false → (m == "beyond") = false → (flds ts j).lookup m = none := fun j m => l_no ts j
    rcases hnt with ⟨rfl, e, rfl, he⟩ | hnt
    · (walk_at "dl")
      refine ⟨r, _, rfl, hr, no _ _ (by decide +kernel) (by decide +kernel) (by decide +kernel), _, 0, e, hr, rfl, ?_⟩
      rw [he, beq_self_eq_true]
      refine ⟨true, rfl, ?_⟩
      rw [if_pos rfl]
      have h := hq 0
      have e1 : adv T.C_Reader μ r [e] 0 = μ := by
        unfold adv
        funext b; unfold Mu.put; split
        · rename_i hb; subst hb; exact hr.symm
        · rfl
      rw [e1] at h
      exact h
    · obtain ⟨q, l, ns', rest, rfl, rfl, hp, ha⟩ := hnt.aft
      obtain ⟨a, l', rfl, haw⟩ := word_first hp
      refine step (fun ρ' μ' => ρ' = [some (.ptr r), none] ∧ μ' = μ) (fun E' hE' => ?_) fun ρ' μ' hS => ?_
      · (walk_at "dl")
        refine ⟨r, _, rfl, hr, no _ _ (by decide +kernel) (by decide +kernel) (by decide +kernel), _, 0, a, hr, rfl, ?_⟩
        rw [haw]
        refine ⟨false, rfl, ?_⟩
        rw [if_neg (by decide)]
        exact hE' _ _ ⟨rfl, rfl⟩
      obtain ⟨rfl, rfl⟩ := hS
      obtain ⟨tk, rest', hrest, hkk⟩ := ha.cons
      have hd0 : ((a :: l') ++ rest).drop 0 = (a :: l') ++ tk :: rest' := by rw [List.drop_zero, hrest]
      generalize hts : (a :: l') ++ rest = ts at *
      refine step_set (fun d μ2 => ∃ p, d = .ptr p ∧ p ≠ r ∧ μ' p = none ∧ μ2 = (adv T.C_Reader μ' r ts (0 + (a :: l').length)).put p (.lst ([q].map ePc))) (fun R hR => ?_) fun d μ2 hS => ?_
      · (walk_at "dl")
        refine ⟨q, a :: l', ts, 0, tk, rest', trivial, hp, hr, hd0, hkk, ?_⟩
        intro p hp
        have hpr : p ≠ r := fun e => by subst e; unfold adv at hp; rw [Mu.put_same] at hp; cases hp
        refine hR _ _ ⟨p, rfl, hpr, ?_, rfl⟩
        unfold adv at hp
        rw [Mu.put_ne hpr] at hp
        exact hp
      obtain ⟨p, rfl, hpr, hp0, rfl⟩ := hS
      show sSeq _ _ _ [some (.ptr r), some (.ptr p)] _
      have hrd : ∀ (i : Nat) (L : List D), RD T.C_Reader ((adv T.C_Reader μ' r ts i).put p (.lst L)) r ts i := fun i L => by
        unfold RD adv
        rw [Mu.put_ne (Ne.symm hpr), Mu.put_same]
      refine step (fun ρ' μ2 => ρ' = [some (.ptr r), some (.ptr p)] ∧ ∃ i, μ2 = (adv T.C_Reader μ' r ts i).put p (.lst ((q :: ns').map ePc))) (fun E' hE' => ?_) fun ρ' μ2 hS => ?_
      · refine ⟨fun m ρ' μ2 => ∃ (done todo : List Pc) (i : Nat) (rst : List Tk), ρ' = [some (.ptr r), some (.ptr p)] ∧ μ2 = (adv T.C_Reader μ' r ts i).put p (.lst (done.map ePc)) ∧ done ++ todo = q :: ns' ∧ Aft todo rst ∧ ts.drop i = rst ∧ m = todo.length, ⟨_, [q], ns', _, rest, rfl, rfl, rfl, ha, ?_, rfl⟩, ?_⟩
        · rw [← hts, Nat.zero_add, List.drop_left' rfl]
        rintro m ρ' μ2 ⟨done, todo, i, rst, rfl, rfl, hdt, haf, hdr, rfl⟩
        have hdl : done.length ≤ 40 := by
          have h := congrArg List.length hdt
          rw [List.length_append] at h
          simp only [List.length_cons] at h hl
          omega
        (walk_at "dl")
        rcases haf with ⟨rfl, e, rfl, he⟩ | ⟨s, ts2, rfl, hs, hn2⟩
        · refine ⟨r, _, rfl, hrd _ _, no _ _ (by decide +kernel) (by decide +kernel) (by decide +kernel), ts, i, e, hrd _ _, at_drop (a := []) hdr, ?_⟩
          rw [he, beq_self_eq_true]
          refine ⟨true, rfl, ?_⟩
          (walk_at "dl")
          rw [List.append_nil] at hdt
          subst hdt
          exact hE' _ _ ⟨rfl, i, rfl⟩
        · have ti : ts[i]? = some s := at_drop (a := []) hdr
          refine ⟨r, _, rfl, hrd _ _, no _ _ (by decide +kernel) (by decide +kernel) (by decide +kernel), ts, i, s, hrd _ _, ti, ?_⟩
          rw [hs]
          refine ⟨false, rfl, ?_⟩
          (walk_at "dl")
          refine ⟨r, _, rfl, hrd _ _, no _ _ (by decide +kernel) (by decide +kernel) (by decide +kernel), r, _, rfl, hrd _ _, no _ _ (by decide +kernel) (by decide +kernel) (by decide +kernel), ts, i, s, hrd _ _, ti, ?_⟩
          rw [hs, beq_self_eq_true]
          refine ⟨rfl, ts, i, s, hrd _ _, ti, ?_⟩
          obtain ⟨q2, l2, ns2, rest2, rfl, rfl, hp2, ha2⟩ := hn2.aft
          obtain ⟨tk2, rest3, rfl, hk2⟩ := ha2.cons
          have hd2 : ts.drop (i + 1) = l2 ++ tk2 :: rest3 := by rw [← List.drop_drop, hdr]; rfl
          refine ⟨p, _, rfl, (by unfold adv; rw [Mu.put_ne hpr, Mu.put_same]), q2, l2, ts, i + 1, tk2, rest3, trivial, hp2, Mu.put_same, hd2, hk2, _, (by unfold adv; rw [Mu.put_ne hpr, Mu.put_ne hpr, Mu.put_same]), sz_small' (by rw [List.length_map]; omega), ns2.length, by simp, done ++ [q2], ns2, i + 1 + l2.length, tk2 :: rest3, ?_, by rw [List.append_assoc]; exact hdt, ha2, ?_, rfl⟩
          · rw [adv_adv]
            unfold adv
            rw [put_comm hpr, Mu.put_put, Mu.put_put, List.map_append]
            rfl
          · rw [← List.drop_drop, hd2, List.drop_left' rfl]
      obtain ⟨rfl, i, rfl⟩ := hS
      have hap : (adv T.C_Reader μ' r ts i) p = none := by unfold adv; rw [Mu.put_ne hpr]; exact hp0
      refine ⟨p, _, rfl, Mu.put_same, ?_⟩
      rw [Mu.put_del hap]
      (walk_at "dl")
      exact hq i
  · exact h.elim
)

theorem ok_parse_news (T : Tx K mg) : FnOk P w K mg base CX0 8 T.a_parse_news T.d_parse_news ["text"] (spD K C_parse_news) :=
  DL.Fun.okDf (N := ["text", "tokens", "reader", "news"]) T.F_parse_news sc_parse_news (fun cdv A outer s H E hr => 
      (dss_cons (ds_set 1 sc_parse_news.nd (de_call (ok_scan T) (hr.mono (by decide)) (by rfl) T.m_scan T.k_scan T.v_scan pass0 (da_cons (dv 0) da_nil))) 
      (dss_cons (ds_set 2 sc_parse_news.nd (de_make T.mk_Reader (ok_Reader___init__ T) (hr.mono (by decide)) (by rfl) T.mC_Reader T.v_Reader___init__ pass0 (da_cons (dv 1) da_nil))) 
      (dss_cons (ds_set 3 sc_parse_news.nd (de_call (ok_read_pieces T) (hr.mono (by decide)) (by rfl) T.m_read_pieces T.k_read_pieces T.v_read_pieces pass0 (da_cons (dv 2) da_nil))) 
      (dss_cons (ds_if (dt_cmp op_notN od_notN (de_fld T.cl_Reader T.na_Reader_beyond (dv 2)) de_non (nomark _)) dss_never dss_nil) 
      (dss_cons (ds_if (dt_cmp op_gtD od_gt (de_B L2.call_len cd_len (by rfl) T.b_len (by decide +kernel) (da_cons (dv 3) da_nil)) (de_globI rfl T.g_MOST_PIECES) (nomark _)) dss_never dss_nil) 
      (dss_one (ds_ret (dv 3)))))))))
    (by intro ds μ Q h; unfold C_parse_news at h; split at h <;> first | rfl | exact h.elim) (by
  intro ds μ Q h
  unfold C_parse_news at h
  split at h
  · rename_i ds' t
    obtain ⟨ns, ts, hlay, hl, hnt, hn, hq⟩ := h
    (walk_at "dl")
    refine ⟨ts, hlay, hl, ?_⟩
    (walk_at "dl")
    intro q hq0
    refine ⟨ts, rfl, Mu.put_same, rfl, ns, ts, hnt, hn, Mu.put_same, fun j => ?_⟩
    have hr2 : adv T.C_Reader (adv T.C_Reader (μ.put q (.ins T.C_Reader [])) q ts 0) q ts j q = some (.ins T.C_Reader (flds ts j)) := Mu.put_same
    simp only [fld_at hr2 (l_beyond ts j)]
    unfold eNews
    (walk_at "dl")
    rw [List.length_map, if_neg (by omega)]
    refine ⟨μ, ?_, hq⟩
    rw [adv_adv]
    unfold adv
    rw [Mu.put_put]
    exact Sub.put hq0
  · exact h.elim
)

end
end K41
end

-- part A6
section
namespace K41
open PySem L2 DL PySem.NumText
/-! ### how a text is laid -/
def clean : List Nat → Prop
  | [] => True
  | c :: _ => isB c = true ∨ c = 59
theorem lay_flag {b b' : Bool} {p : Nat} {l : List Nat} {ts : List Tk} (h : Lay b p l ts) (hc : clean l) : Lay b' p l ts := by
  cases h with
  | nil => exact .nil
  | blank h r => exact .blank h r
  | @tok _ _ c t l ts hb hn r =>
    rcases hc with hc | hc
    · rw [hb] at hc; cases hc
    · have e : kindOf b c = kindOf b' c := by unfold kindOf; rw [if_pos hc, if_pos hc]
      rw [e]
      exact .tok hb hn r
theorem clean_head {p : Nat → Bool} (h59 : p 59 = false) (hB : ∀ c, isB c = true → p c = false) : ∀ {l : List Nat}, clean l → run p l = 0
  | [], _ => rfl
  | c :: l, h => by
    unfold run
    rcases h with h | h
    · rw [hB c h]; rfl
    · rw [h, h59]; rfl
theorem run_all {p : Nat → Bool} : ∀ {w l : List Nat}, (∀ c ∈ w, p c = true) → run p l = 0 → run p (w ++ l) = w.length
  | [], l, _, h => h
  | c :: w, l, hw, h => by
    show run p (c :: (w ++ l)) = _
    unfold run
    rw [if_pos (hw c (by simp)), run_all (fun d hd => hw d (by simp [hd])) h, List.length_cons]
theorem bl_L {c : Nat} (h : isB c = true) : isL c = false := by simp [isB] at h; rcases h with rfl | rfl <;> rfl
theorem bl_D {c : Nat} (h : isB c = true) : isD c = false := by simp [isB] at h; rcases h with rfl | rfl <;> rfl
theorem L_bl {c : Nat} (h : isL c = true) : isB c = false := by
  cases e : isB c with
  | false => rfl
  | true => rw [bl_L e] at h; cases h
theorem D_bl {c : Nat} (h : isD c = true) : isB c = false := by
  cases e : isB c with
  | false => rfl
  | true => rw [bl_D e] at h; cases h
theorem L_59 {c : Nat} (h : isL c = true) : c ≠ 59 := by intro e; subst e; cases h
theorem D_59 {c : Nat} (h : isD c = true) : c ≠ 59 ∧ isL c = false ∧ c ≠ 45 := by
  simp [isD] at h
  refine ⟨by omega, ?_, by omega⟩
  simp [isL]; omega
theorem word_lay {w rest : List Nat} {ts : List Tk} {b : Bool} {p : Nat} (hw : w ≠ []) (hL : ∀ c ∈ w, isL c = true) (hc : clean rest) (h : Lay b (p + w.length) rest ts) : Lay false p (w ++ rest) (⟨"word", w, p⟩ :: ts) := by
  cases w with
  | nil => exact absurd rfl hw
  | cons c w =>
    have h1 := hL c (by simp)
    have e : kindOf false c = "word" := by unfold kindOf; rw [if_neg (L_59 h1), if_neg (by decide), if_pos h1]
    rw [← e]
    refine .tok (L_bl h1) ?_ (lay_flag h hc)
    show tokLen (c :: (w ++ rest)) = _
    rw [tok_cons, if_neg (L_59 h1), if_pos h1]
    exact run_all (w := c :: w) hL (clean_head rfl (fun _ => bl_L) hc)
/-- a number's signs -/
def NumS (t : List Nat) : Prop := ∃ (neg : Bool) (ds : List Nat), t = (if neg = true then [45] else []) ++ ds ∧ AllDigits ds ∧ ds ≠ []
theorem num_lay {w rest : List Nat} {ts : List Tk} {b : Bool} {p : Nat} (hw : NumS w) (hc : clean rest) (h : Lay b (p + w.length) rest ts) : Lay false p (w ++ rest) (⟨"number", w, p⟩ :: ts) := by
  obtain ⟨neg, ds, rfl, hd, hne⟩ := hw
  have hD : ∀ c ∈ ds, isD c = true := fun c hc => by have := hd c hc; simp [isD]; omega
  have hr := clean_head (p := isD) rfl (fun _ => bl_D) hc
  have h0 : 0 < ds.length := List.length_pos_iff.mpr hne
  cases neg with
  | true =>
    rw [if_pos rfl, List.singleton_append] at h ⊢
    have e : kindOf false 45 = "number" := rfl
    rw [← e]
    refine .tok rfl ?_ (lay_flag h hc)
    show tokLen (45 :: (ds ++ rest)) = _
    rw [tok_cons, if_neg (by decide), if_neg (by decide), if_pos rfl, run_all hD hr, if_neg (by omega), List.length_cons]
  | false =>
    rw [if_neg (by decide), List.nil_append] at h ⊢
    cases ds with
    | nil => exact absurd rfl hne
    | cons c ds =>
      have h1 := D_59 (hD c (by simp))
      have e : kindOf false c = "number" := by unfold kindOf; rw [if_neg h1.1, if_neg (by decide), if_neg (by rw [h1.2.1]; decide)]
      rw [← e]
      refine .tok (D_bl (hD c (by simp))) ?_ (lay_flag h hc)
      show tokLen (c :: (ds ++ rest)) = _
      rw [tok_cons, if_neg h1.1, if_neg (by rw [h1.2.1]; decide), if_neg h1.2.2]
      exact run_all (w := c :: ds) hD hr
theorem sep_lay {rest : List Nat} {ts : List Tk} {b : Bool} {p : Nat} (h : Lay false (p + 1) rest ts) : Lay b p (59 :: rest) (⟨"separator", [59], p⟩ :: ts) := by
  have e : kindOf b 59 = "separator" := by unfold kindOf; rw [if_pos rfl]
  rw [← e]
  exact .tok (t := []) rfl rfl h
theorem bl_lay {rest : List Nat} {ts : List Tk} : ∀ {bs : List Nat} {b : Bool} {p : Nat}, (∀ c ∈ bs, isB c = true) → Lay false (p + bs.length) rest ts → (bs = [] → b = false ∨ clean rest) → Lay b p (bs ++ rest) ts
  | [], b, p, _, h, hc => by
    rcases hc rfl with e | e
    · subst e; exact h
    · exact lay_flag h e
  | c :: bs, b, p, hb, h, _ => .blank (hb c (by simp)) (bl_lay (fun d hd => hb d (by simp [hd])) (by rw [List.length_cons] at h; rw [show p + 1 + bs.length = p + (bs.length + 1) by omega]; exact h) fun _ => Or.inl rfl)
/-- a token as it is meant -/
inductive TT where
  | w (s : List Nat) | n (t : List Nat)
def TT.t : TT → List Nat
  | .w s => s
  | .n t => t
def TT.ok : TT → Prop
  | .w s => s ≠ [] ∧ ∀ c ∈ s, isL c = true
  | .n t => NumS t
def TT.tk (p : Nat) : TT → Tk
  | .w s => ⟨"word", s, p⟩
  | .n t => ⟨"number", t, p⟩
theorem tt_lay {x : TT} {rest : List Nat} {ts : List Tk} {b : Bool} {p : Nat} (ho : x.ok) (hc : clean rest) (h : Lay b (p + x.t.length) rest ts) : Lay false p (x.t ++ rest) (x.tk p :: ts) := by
  cases x with
  | w s => exact word_lay ho.1 ho.2 hc h
  | n t => exact num_lay ho hc h
/-- a row of tokens with blanks between -/
inductive Row : List Nat → List TT → Prop
  | nil : Row [] []
  | bl {bs l ts} (hb : ∀ c ∈ bs, isB c = true) (r : Row l ts) : Row (bs ++ l) ts
  | tok {x l ts} (ho : TT.ok x) (hc : clean l) (r : Row l ts) : Row (x.t ++ l) (x :: ts)
theorem clean_app {a b : List Nat} (ha : clean a) (hb : clean b) : clean (a ++ b) := by cases a with | nil => exact hb | cons c a => exact ha
/-- what a row is read as, at a place -/
def Same (ts : List Tk) (xs : List TT) : Prop := List.map (fun t : Tk => (t.k, t.t)) ts = xs.map fun x => ((x.tk 0).k, x.t)
theorem row_lay {l : List Nat} {xs : List TT} (h : Row l xs) : ∀ {rest : List Nat} {ts : List Tk} {p : Nat}, clean rest → Lay false (p + l.length) rest ts → ∃ tks, Same tks xs ∧ Lay false p (l ++ rest) (tks ++ ts) := by
  induction h with
  | nil => intro rest ts p _ h; exact ⟨[], rfl, h⟩
  | @bl bs l xs hb r ih =>
    intro rest ts p hc h
    obtain ⟨tks, h1, h2⟩ := ih (p := p + bs.length) hc (by rw [List.length_append] at h; rw [Nat.add_assoc]; exact h)
    exact ⟨tks, h1, by rw [List.append_assoc]; exact bl_lay hb h2 fun _ => Or.inl rfl⟩
  | @tok x l xs ho hcl r ih =>
    intro rest ts p hc h
    obtain ⟨tks, h1, h2⟩ := ih (p := p + x.t.length) hc (by rw [List.length_append] at h; rw [Nat.add_assoc]; exact h)
    refine ⟨x.tk p :: tks, ?_, ?_⟩
    · unfold Same at h1 ⊢
      rw [List.map_cons, List.map_cons, h1]
      cases x <;> rfl
    · rw [List.append_assoc]
      exact tt_lay ho (clean_app hcl hc) h2
end K41
end

-- part A7
section
local macro_rules | `(tactic| walk_at "dl") => `(tactic| simp only [DL.sRet, DL.dJoined, DL.dJs, DL.dFmt, DL.dFld, DL.dMeth, DL.dMake, DL.sFld, DL.sFldI, DL.sSeq, DL.sSet, DL.sIf, DL.sNext, DL.sNever, DL.sDrop, DL.sAsg, DL.sRetN, DL.dVar, DL.dC, DL.dOp, DL.dTest, DL.dAnd, DL.dOr, DL.dNot, DL.dTru, DL.dAndV, DL.dOrV, DL.dNotV, DL.dIf, DL.aNil, DL.aCons, DL.dTup, DL.dLst, DL.dLstM, DL.dCall, DL.dFrz, DL.dB, DL.dNeg, DL.dSl, DL.oNone, DL.oSome, DL.dChn, DL.gN, DL.gT, DL.setAll,
  DL.ix_l, DL.ix_t, DL.ix_s, DL.ix_p, DL.add_i, DL.add_s, DL.add_l, DL.add_t, DL.mul_i, DL.mul_b, DL.sub_i, DL.fdiv_i, DL.mod_i, DL.pow_i, DL.shl_i, DL.shr_i, DL.and_i, DL.lt_i, DL.le_i, DL.gt_i, DL.ge_i, DL.le_s, DL.in_t, DL.in_l, DL.in_s, DL.len_l, DL.len_t, DL.len_s, DL.len_p, DL.list_l, DL.list_t, DL.list_s, DL.list_p, DL.tuple_l, DL.tuple_t, DL.int_i, DL.int_b, DL.abs_i, DL.max_i, DL.min_i, DL.all_l, DL.any_l, DL.isi_1, DL.isi_n, DL.sl_l, DL.sl_t, DL.sl_s, DL.neg_i, DL.isN_i, DL.notN_i, DL.eq_x, DL.ne_x,
  DL.w_wrote_many, DL.w_wrote_many_b, DL.w_wrote_among, DL.w_wrote_among_b, DL.w_wrote_did, DL.w_wrote_did_b, DL.w_wrote_times, DL.w_wrote_times_b, DL.w_wrote_value, DL.w_wrote_value_b, DL.w_wrote_head, DL.w_wrote_head_b, DL.w_many_wrote, DL.w_many_wrote_b, DL.w_many_among, DL.w_many_among_b, DL.w_many_did, DL.w_many_did_b, DL.w_many_times, DL.w_many_times_b, DL.w_many_value, DL.w_many_value_b, DL.w_many_head, DL.w_many_head_b, DL.w_among_wrote, DL.w_among_wrote_b, DL.w_among_many, DL.w_among_many_b, DL.w_among_did, DL.w_among_did_b, DL.w_among_times, DL.w_among_times_b, DL.w_among_value, DL.w_among_value_b, DL.w_among_head, DL.w_among_head_b, DL.w_did_wrote, DL.w_did_wrote_b, DL.w_did_many, DL.w_did_many_b, DL.w_did_among, DL.w_did_among_b, DL.w_did_times, DL.w_did_times_b, DL.w_did_value, DL.w_did_value_b, DL.w_did_head, DL.w_did_head_b, DL.w_times_wrote, DL.w_times_wrote_b, DL.w_times_many, DL.w_times_many_b, DL.w_times_among, DL.w_times_among_b, DL.w_times_did, DL.w_times_did_b, DL.w_times_value, DL.w_times_value_b, DL.w_times_head, DL.w_times_head_b, DL.w_value_wrote, DL.w_value_wrote_b, DL.w_value_many, DL.w_value_many_b, DL.w_value_among, DL.w_value_among_b, DL.w_value_did, DL.w_value_did_b, DL.w_value_times, DL.w_value_times_b, DL.w_value_head, DL.w_value_head_b, DL.w_head_wrote, DL.w_head_wrote_b, DL.w_head_many, DL.w_head_many_b, DL.w_head_among, DL.w_head_among_b, DL.w_head_did, DL.w_head_did_b, DL.w_head_times, DL.w_head_times_b, DL.w_head_value, DL.w_head_value_b,
  DL.q_ss, DL.q_ii, DL.q_bb, DL.q_nn, DL.q_tt, DL.q_ll, DL.q_si, DL.q_sn, DL.q_st, DL.q_sl, DL.q_is, DL.q_in, DL.q_it, DL.q_il, DL.q_ns, DL.q_ni, DL.q_nt, DL.q_nl, DL.q_ts, DL.q_ti, DL.q_tn, DL.q_tl, DL.q_ls, DL.q_li, DL.q_ln, DL.q_lt, DL.qs_nil, DL.qs_cons, DL.qs_nc, DL.qs_cn, DL.p_t16, DL.p_l16, DL.p_t15, DL.p_l15, DL.p_t14, DL.p_l14, DL.p_t13, DL.p_l13, DL.p_t12, DL.p_l12, DL.p_s, DL.p_i, DL.p_b, DL.p_n, DL.ps_nil, DL.ps_cons, DL.t_b, DL.t_i, DL.t_l, DL.t_t, DL.t_n, DL.n_n, DL.n_i, DL.n_s, DL.n_t, DL.n_l, DL.n_b, DL.f_s, DL.f_i,
  Bool.false_and, Bool.and_false, DL.z0, DL.z1, DL.z2, DL.z3, DL.z4, DL.z5, DL.z6, DL.z12,
  DL.startD, DL.sFrz, DL.sApp, DL.yesD, DL.lcTurn, DL.wipeE, DL.at0, DL.at1, DL.at2, DL.at3, DL.at4, List.map_cons, List.map_nil, List.replicate_succ, List.replicate_zero, List.length_cons, List.length_nil, List.cons_append, List.nil_append, List.set_cons_zero, List.set_cons_succ, List.getElem?_cons_zero, List.getElem?_cons_succ, Option.some.injEq, exists_eq_left, exists_eq_left', exists_eq', exists_eq, true_and, and_true, decide_eq_true_eq, if_true, if_false, Bool.false_eq_true, reduceIte, Nat.reduceAdd, Nat.reduceSub, DL.D.bl.injEq, DL.D.int.injEq, DL.D.str.injEq, DL.D.tup.injEq, DL.D.lst.injEq, DL.D.ptr.injEq, Bool.not_true, Bool.not_false, beq_self_eq_true, List.all_cons, List.all_nil, List.any_cons, List.any_nil, Bool.and_true, Bool.true_and, Bool.or_false, Bool.false_or, Bool.or_true, Bool.true_or, Bool.false_xor, Bool.true_xor, beq_iff_eq, Bool.not_eq_true, Int.reduceEq, Int.reduceBEq, and_self])

namespace K41
open PySem L2 DL PySem.NumText
def numS (i : Int) : Str := Str.ofString (toString i)
theorem nn_digits (m : Nat) : (numS (m : Int)).cps.toList = (Nat.toDigits 10 m).map Char.toNat := PySem.W.KIN.signs_num m
theorem dig_all (m : Nat) : AllDigits ((Nat.toDigits 10 m).map Char.toNat) := by
  intro c hc
  obtain ⟨ch, hch, e⟩ := List.mem_map.mp hc
  rw [← e]
  exact PyProof.Rows.digit_range (Nat.isDigit_of_mem_toDigits (by decide) (by decide) hch)
theorem dig_ne (m : Nat) : (Nat.toDigits 10 m).map Char.toNat ≠ [] := by
  intro e
  have h := toDigits_len_ge 10 m
  rw [List.map_eq_nil_iff.mp e] at h
  exact absurd h (by decide)
theorem dig_len {m : Nat} (h : m ≤ 1000000) : ((Nat.toDigits 10 m).map Char.toNat).length ≤ 8 := by
  have h1 : (numS (m : Int)).length ≤ 8   := PyProof.Rows.toString_length_le (by omega) (by decide) (by omega : (m : Int) < 10 ^ 8)
  rw [← nn_digits, Array.length_toList]
  exact h1
theorem neg_digits (m : Nat) : (numS (-((m + 1 : Nat) : Int))).cps.toList = 45 :: (Nat.toDigits 10 (m + 1)).map Char.toNat := by
  unfold numS
  rw [PyProof.Rows.signs_ofString]
  show ((Int.negSucc m).repr).toList.map Char.toNat = _
  show (("-" ++ Nat.repr (m + 1)) : String).toList.map Char.toNat = _
  rw [String.toList_append, List.map_append, Nat.toList_repr]
  rfl
theorem num_T {i : Int} (h : -1000000 ≤ i ∧ i ≤ 1000000) : NumT (numS i).cps.toList i := by
  have dw : ∀ l : List Nat, (l.dropWhile (· == 48)).length ≤ l.length := fun l => (List.dropWhile_suffix _).length_le
  by_cases h0 : 0 ≤ i
  · obtain ⟨m, rfl⟩ := Int.eq_ofNat_of_zero_le h0
    have hl := dig_len (m := m) (by omega)
    refine ⟨false, (Nat.toDigits 10 m).map Char.toNat, nn_digits m, dig_all m, dig_ne m, Nat.le_trans (dw _) hl, by omega, ?_⟩
    rw [if_neg (by decide), PySem.W.KIN.val_back]
  · obtain ⟨m, hm⟩ := Int.eq_ofNat_of_zero_le (a := -i - 1) (by omega)
    have e : i = -((m + 1 : Nat) : Int) := by omega
    subst e
    have hl := dig_len (m := m + 1) (by omega)
    refine ⟨true, (Nat.toDigits 10 (m + 1)).map Char.toNat, neg_digits m, dig_all _, dig_ne _, Nat.le_trans (dw _) hl, by omega, ?_⟩
    rw [if_pos rfl, PySem.W.KIN.val_back]
theorem NumT.S {t : List Nat} {n : Int} (h : NumT t n) : NumS t := by
  obtain ⟨neg, ds, h1, h2, h3, _⟩ := h
  exact ⟨neg, ds, h1, h2, h3⟩
theorem NumT.len {t : List Nat} {n : Int} (h : NumT t n) : t.length ≤ 101 ∧ ∀ c ∈ t, c < 128 := by
  obtain ⟨neg, ds, rfl, h2, h3, h4, h5, _⟩ := h
  refine ⟨?_, fun c hc => ?_⟩
  · rw [List.length_append]
    have : (if neg = true then [45] else [] : List Nat).length ≤ 1 := by split <;> simp
    omega
  · rcases List.mem_append.mp hc with hc | hc
    · split at hc <;> simp at hc
      omega
    · have := h2 c hc; omega
theorem sok_str {s : Str} (h : ∀ c ∈ s.cps.toList, c < 128) (hl : s.length ≤ 10000) : SOk s := by
  have h1 := sok_list h (by rw [Array.length_toList]; exact hl)
  exact h1
theorem num_sok {i : Int} (h : -1000000 ≤ i ∧ i ≤ 1000000) : i.natAbs.log2 < 1920 ∧ SOk (numS i) ∧ (numS i).length ≤ 101 := by
  have hn := (num_T h).len
  have hl : (numS i).length ≤ 101 := by have h1 := hn.1; rw [Array.length_toList] at h1; exact h1
  refine ⟨?_, sok_str hn.2 (by omega), hl⟩
  have : i.natAbs < 2 ^ 1920 := Nat.lt_of_le_of_lt (by omega : i.natAbs ≤ 2 ^ 20) (Nat.pow_lt_pow_right (by decide) (by decide))
  by_cases h0 : i.natAbs = 0
  · rw [h0]; decide
  · exact (Nat.log2_lt h0).mpr this
/-- a piece that can be told and read -/
def okKey (k : Str) : Prop := k.cps.toList ≠ [] ∧ (∀ c ∈ k.cps.toList, isL c = true) ∧ k.length ≤ 8
def okKeys (ks : List Str) : Prop := ks ≠ [] ∧ ks.length ≤ 5 ∧ SortedS ks ∧ ∀ k ∈ ks, okKey k
def okP : Pc → Prop
  | .wrote v ks => (1 ≤ v ∧ v ≤ 20) ∧ okKeys ks
  | .among v ks => (1 ≤ v ∧ v ≤ 20) ∧ okKeys ks
  | .many v n => (1 ≤ v ∧ v ≤ 20) ∧ 1 ≤ n ∧ n ≤ 20
  | .did v k => (1 ≤ v ∧ v ≤ 20) ∧ okKey k
  | .times k v n => (0 ≤ v ∧ v ≤ 20) ∧ okKey k ∧ 0 ≤ n ∧ n ≤ 20
  | .value k n x => (1 ≤ n ∧ n ≤ 20) ∧ okKey k ∧ -1000000 ≤ x ∧ x ≤ 1000000
  | .head v => 0 ≤ v ∧ v ≤ 20
/-- the words of a piece -/
def wordsP : Pc → List Str
  | .wrote v ks => "at" :: numS v :: "wrote" :: ks
  | .among v ks => "at" :: numS v :: "among" :: ks
  | .many v n => ["at", numS v, "many", numS n]
  | .did v k => ["at", numS v, "did", k]
  | .times k v n => ["by", numS v, "times", k, numS n]
  | .value k n x => ["write", numS n, "of", k, numS x]
  | .head v => ["head", numS v]
/-- the text of a piece -/
def printP (q : Pc) : Str := Str.join " " (wordsP q)
theorem txt_join (sep : Str) (ys : List Str) : Txt.join sep ys = Str.join sep ys := eq_of_beq (PyProof.Rows.join_closes (sep' := sep) rfl)
theorem app_l (a b : Str) : (a ++ b).cps.toList = a.cps.toList ++ b.cps.toList := by
  show (a.cps ++ b.cps).toList = _
  simp
theorem app_len (a b : Str) : (a ++ b).length = a.length + b.length := by
  show (a.cps ++ b.cps).size = _
  simp
  rfl
theorem str_ext {a b : Str} (h : a.cps.toList = b.cps.toList) : a = b := by
  obtain ⟨a⟩ := a; obtain ⟨b⟩ := b
  exact congrArg Str.mk (Array.toList_inj.mp h)
theorem k_at_ : (Str.ofString "at ").length = 3 := by decide +kernel
theorem k_sp : (Str.ofString " ").length = 1 := by decide +kernel
theorem k_many : (Str.ofString "many").length = 4 := by decide +kernel
theorem k_did : (Str.ofString "did").length = 3 := by decide +kernel
theorem k_wrote : (Str.ofString "wrote").length = 5 := by decide +kernel
theorem k_among : (Str.ofString "among").length = 5 := by decide +kernel
theorem k_by_ : (Str.ofString "by ").length = 3 := by decide +kernel
theorem k_times_ : (Str.ofString " times ").length = 7 := by decide +kernel
theorem k_write_ : (Str.ofString "write ").length = 6 := by decide +kernel
theorem k_of_ : (Str.ofString " of ").length = 4 := by decide +kernel
theorem k_head_ : (Str.ofString "head ").length = 5 := by decide +kernel
theorem k_at : (Str.ofString "at").length = 2 := by decide +kernel
theorem k_by : (Str.ofString "by").length = 2 := by decide +kernel
theorem k_times : (Str.ofString "times").length = 5 := by decide +kernel
theorem k_write : (Str.ofString "write").length = 5 := by decide +kernel
theorem k_of : (Str.ofString "of").length = 2 := by decide +kernel
theorem k_head : (Str.ofString "head").length = 4 := by decide +kernel
theorem k_e : (Str.ofString "").length = 0 := by decide +kernel
theorem s_by_ : ("by " : Str) = ("by" : Str) ++ (" " : Str) := by decide +kernel
theorem s_times_ : (" times " : Str) = (" " : Str) ++ ("times" : Str) ++ (" " : Str) := by decide +kernel
theorem s_write_ : ("write " : Str) = ("write" : Str) ++ (" " : Str) := by decide +kernel
theorem s_of_ : (" of " : Str) = (" " : Str) ++ ("of" : Str) ++ (" " : Str) := by decide +kernel
theorem s_head_ : ("head " : Str) = ("head" : Str) ++ (" " : Str) := by decide +kernel
theorem s_at_ : ("at " : Str) = ("at" : Str) ++ (" " : Str) := by decide +kernel
theorem j1 (s a : Str) : Str.join s [a] = a := rfl
theorem j2 (s a b : Str) (r : List Str) : Str.join s (a :: b :: r) = a ++ s ++ Str.join s (b :: r) := rfl
theorem app_assoc (a b c : Str) : a ++ b ++ c = a ++ (b ++ c) := str_ext (by rw [app_l, app_l, app_l, app_l, List.append_assoc])
theorem join_ok : ∀ ks : List Str, ks.length ≤ 5 → (∀ k ∈ ks, okKey k) → (ks.map (·.length)).sum + ks.length * (Str.ofString " ").length ≤ 16777216 ∧ SOk (Txt.join (Str.ofString " ") ks) ∧ (Txt.join (Str.ofString " ") ks).length ≤ 100 := by
  intro ks h hk
  have h1 : ∀ l : List Str, (∀ k ∈ l, okKey k) → (l.map (·.length)).sum ≤ 8 * l.length ∧ (Str.join (Str.ofString " ") l).length ≤ 9 * l.length ∧ ∀ c ∈ (Str.join (Str.ofString " ") l).cps.toList, c < 128 := by
    intro l
    induction l with
    | nil => intro _; exact ⟨by simp, by decide, fun c hc => by rw [show (Str.join (Str.ofString " ") []).cps.toList = [] from rfl] at hc; cases hc⟩
    | cons a l ih =>
      intro hl
      have ha := hl a (by simp)
      obtain ⟨i1, i2, i3⟩ := ih fun k hk => hl k (by simp [hk])
      have ha3 := ha.2.2
      have hc : ∀ c ∈ a.cps.toList, c < 128 := fun c hc => by have := ha.2.1 c hc; simp [isL] at this; omega
      refine ⟨by simp; omega, ?_, ?_⟩
      · cases l with
        | nil => rw [j1]; simp; omega
        | cons b l => rw [j2, app_len, app_len, k_sp]; simp only [List.length_cons] at i2 ⊢; omega
      · cases l with
        | nil => rw [j1]; exact hc
        | cons b l =>
          rw [j2, app_l, app_l]
          intro c hm
          rcases List.mem_append.mp hm with hm | hm
          · rcases List.mem_append.mp hm with hm | hm
            · exact hc c hm
            · rw [show (Str.ofString " ").cps.toList = [32] from rfl] at hm; simp at hm; omega
          · exact i3 c hm
  obtain ⟨i1, i2, i3⟩ := h1 ks hk
  rw [txt_join, k_sp]
  exact ⟨by omega, sok_str i3 (by omega), by omega⟩
def C__law_print : CT := fun ds μ Q => match ds with
  | [p] => ∃ q, p = ePc q ∧ okP q ∧ Q (.str (printP q)) μ
  | _ => False
def C_print_piece : CT := fun ds μ Q => match ds with
  | [p] => ∃ q, p = ePc q ∧ okP q ∧ Q (.str (printP q)) μ
  | _ => False
section
variable {P : Program} {w : World} {K : PySem.W.Frag} {mg : Str → Option Value} {base : Heap}
theorem ok__law_print (T : Tx K mg) : FnOk P w K mg base CX0 1 T.a__law_print T.d__law_print ["piece"] (spD K C__law_print) :=
  DL.Fun.okD (N := ["piece", "form", "rest"]) T.F__law_print sc__law_print (fun cdv A outer s H E hr => 
      (dss_cons (ds_set 1 sc__law_print.nd (de_ix ix_seq od_ix (dv 0) de_int (fun _ _ => rfl))) 
      (dss_cons (ds_if (dt_cmp (op_eqD hr.units) od_eq (dv 1) (de_str) (nomark _)) 
      (dss_one (ds_ret (de_op op_addD od_add (de_op op_addD od_add (de_op op_addD od_add (de_op op_addD od_add (de_op op_addD od_add (de_str) (de_T call_strIS cd_str (by rfl) T.b_str (by decide +kernel) (da_cons (de_ix ix_seq od_ix (dv 0) de_int (fun _ _ => rfl)) da_nil))) (de_str)) (de_ix ix_seq od_ix (dv 0) de_int (fun _ _ => rfl))) (de_str)) (de_T call_strIS cd_str (by rfl) T.b_str (by decide +kernel) (da_cons (de_ix ix_seq od_ix (dv 0) de_int (fun _ _ => rfl)) da_nil))))) dss_nil) 
      (dss_cons (ds_if (dt_cmp (op_eqD hr.units) od_eq (dv 1) (de_str) (nomark _)) 
      (dss_one (ds_ret (de_op op_addD od_add (de_op op_addD od_add (de_op op_addD od_add (de_op op_addD od_add (de_op op_addD od_add (de_str) (de_T call_strIS cd_str (by rfl) T.b_str (by decide +kernel) (da_cons (de_ix ix_seq od_ix (dv 0) de_int (fun _ _ => rfl)) da_nil))) (de_str)) (de_ix ix_seq od_ix (dv 0) de_int (fun _ _ => rfl))) (de_str)) (de_T call_strIS cd_str (by rfl) T.b_str (by decide +kernel) (da_cons (de_ix ix_seq od_ix (dv 0) de_int (fun _ _ => rfl)) da_nil))))) dss_nil) 
      (dss_cons (ds_if (dt_cmp (op_eqD hr.units) od_eq (dv 1) (de_str) (nomark _)) 
      (dss_one (ds_ret (de_op op_addD od_add (de_str) (de_T call_strIS cd_str (by rfl) T.b_str (by decide +kernel) (da_cons (de_ix ix_seq od_ix (dv 0) de_int (fun _ _ => rfl)) da_nil))))) dss_nil) 
      (dss_cons (ds_set 2 sc__law_print.nd (de_if (dt_cmp op_inD2 od_in (dv 1) (de_tup (da_cons (de_str) (da_cons (de_str) da_nil))) (by rfl)) (de_join (de_str) (de_ix ix_seq od_ix (dv 0) de_int (fun _ _ => rfl))) (de_T call_strIS cd_str (by rfl) T.b_str (by decide +kernel) (da_cons (de_ix ix_seq od_ix (dv 0) de_int (fun _ _ => rfl)) da_nil)))) 
      (dss_one (ds_ret (de_op op_addD od_add (de_op op_addD od_add (de_op op_addD od_add (de_op op_addD od_add (de_op op_addD od_add (de_str) (de_T call_strIS cd_str (by rfl) T.b_str (by decide +kernel) (da_cons (de_ix ix_seq od_ix (dv 0) de_int (fun _ _ => rfl)) da_nil))) (de_str)) (dv 1)) (de_str)) (dv 2))))))))))
    (by intro ds μ Q h; unfold C__law_print at h; split at h <;> first | rfl | exact h.elim) (by
  intro ds μ Q h
  unfold C__law_print at h
  split at h
  · obtain ⟨q, rfl, ho, hq⟩ := h
    cases q <;> unfold ePc <;> (walk_at "dl")
    · rename_i v ks
      obtain ⟨⟨h1, h2⟩, hne, h5, hsd, hk⟩ := ho
      have e1 := num_sok (i := v) ⟨by omega, by omega⟩
      have e3 : (numS v).length ≤ 101 := e1.2.2
      unfold numS at e3
      have ej := join_ok ks h5 hk
      unfold dJoin eKeys
      (walk_at "dl")
      refine ⟨_, ks, Or.inr rfl, strs_map ks, ej.1, ej.2.1, ?_⟩
      refine ⟨e1.1, e1.2.1, ?_⟩
      have e4 := ej.2.2
      (walk_at "dl")
      refine ⟨sz_small (by simp only [app_len, k_at_, k_sp, k_many, k_did, k_wrote, k_among, k_by_, k_times_, k_write_, k_of_, k_head_]; omega), ?_⟩
      refine ⟨sz_small (by simp only [app_len, k_at_, k_sp, k_many, k_did, k_wrote, k_among, k_by_, k_times_, k_write_, k_of_, k_head_]; omega), ?_⟩
      refine ⟨sz_small (by simp only [app_len, k_at_, k_sp, k_many, k_did, k_wrote, k_among, k_by_, k_times_, k_write_, k_of_, k_head_]; omega), ?_⟩
      refine ⟨sz_small (by simp only [app_len, k_at_, k_sp, k_many, k_did, k_wrote, k_among, k_by_, k_times_, k_write_, k_of_, k_head_]; omega), ?_⟩
      refine ⟨sz_small (by simp only [app_len, k_at_, k_sp, k_many, k_did, k_wrote, k_among, k_by_, k_times_, k_write_, k_of_, k_head_]; omega), ?_⟩
      have e9 : ((Str.ofString "at ") ++ Str.ofString (toString v) ++ (Str.ofString " ") ++ (Str.ofString "wrote") ++ (Str.ofString " ") ++ Txt.join (Str.ofString " ") ks : Str) = printP (.wrote v ks) := by
        unfold printP wordsP numS
        rw [txt_join]
        cases ks with
        | nil => exact absurd rfl hne
        | cons k ks => simp only [j1, j2, s_at_, s_by_, s_times_, s_write_, s_of_, s_head_, app_assoc]
      rw [← e9] at hq
      exact hq
    · rename_i v n
      obtain ⟨⟨h1, h2⟩, h3, h4⟩ := ho
      have e1 := num_sok (i := v) ⟨by omega, by omega⟩
      have e2 := num_sok (i := n) ⟨by omega, by omega⟩
      have e3 : (numS v).length ≤ 101 := e1.2.2
      have e4 : (numS n).length ≤ 101 := e2.2.2
      unfold numS at e3 e4
      refine ⟨e2.1, e2.2.1, e1.1, e1.2.1, ?_⟩
      (walk_at "dl")
      refine ⟨sz_small (by simp only [app_len, k_at_, k_sp, k_many, k_did, k_wrote, k_among, k_by_, k_times_, k_write_, k_of_, k_head_]; omega), ?_⟩
      refine ⟨sz_small (by simp only [app_len, k_at_, k_sp, k_many, k_did, k_wrote, k_among, k_by_, k_times_, k_write_, k_of_, k_head_]; omega), ?_⟩
      refine ⟨sz_small (by simp only [app_len, k_at_, k_sp, k_many, k_did, k_wrote, k_among, k_by_, k_times_, k_write_, k_of_, k_head_]; omega), ?_⟩
      refine ⟨sz_small (by simp only [app_len, k_at_, k_sp, k_many, k_did, k_wrote, k_among, k_by_, k_times_, k_write_, k_of_, k_head_]; omega), ?_⟩
      refine ⟨sz_small (by simp only [app_len, k_at_, k_sp, k_many, k_did, k_wrote, k_among, k_by_, k_times_, k_write_, k_of_, k_head_]; omega), ?_⟩
      have e9 : ((Str.ofString "at ") ++ Str.ofString (toString v) ++ (Str.ofString " ") ++ (Str.ofString "many") ++ (Str.ofString " ") ++ Str.ofString (toString n) : Str) = printP (.many v n) := by
        unfold printP wordsP numS
        simp only [j1, j2, s_at_, s_by_, s_times_, s_write_, s_of_, s_head_, app_assoc]
      rw [← e9] at hq
      exact hq
    · rename_i v ks
      obtain ⟨⟨h1, h2⟩, hne, h5, hsd, hk⟩ := ho
      have e1 := num_sok (i := v) ⟨by omega, by omega⟩
      have e3 : (numS v).length ≤ 101 := e1.2.2
      unfold numS at e3
      have ej := join_ok ks h5 hk
      unfold dJoin eKeys
      (walk_at "dl")
      refine ⟨_, ks, Or.inr rfl, strs_map ks, ej.1, ej.2.1, ?_⟩
      refine ⟨e1.1, e1.2.1, ?_⟩
      have e4 := ej.2.2
      (walk_at "dl")
      refine ⟨sz_small (by simp only [app_len, k_at_, k_sp, k_many, k_did, k_wrote, k_among, k_by_, k_times_, k_write_, k_of_, k_head_]; omega), ?_⟩
      refine ⟨sz_small (by simp only [app_len, k_at_, k_sp, k_many, k_did, k_wrote, k_among, k_by_, k_times_, k_write_, k_of_, k_head_]; omega), ?_⟩
      refine ⟨sz_small (by simp only [app_len, k_at_, k_sp, k_many, k_did, k_wrote, k_among, k_by_, k_times_, k_write_, k_of_, k_head_]; omega), ?_⟩
      refine ⟨sz_small (by simp only [app_len, k_at_, k_sp, k_many, k_did, k_wrote, k_among, k_by_, k_times_, k_write_, k_of_, k_head_]; omega), ?_⟩
      refine ⟨sz_small (by simp only [app_len, k_at_, k_sp, k_many, k_did, k_wrote, k_among, k_by_, k_times_, k_write_, k_of_, k_head_]; omega), ?_⟩
      have e9 : ((Str.ofString "at ") ++ Str.ofString (toString v) ++ (Str.ofString " ") ++ (Str.ofString "among") ++ (Str.ofString " ") ++ Txt.join (Str.ofString " ") ks : Str) = printP (.among v ks) := by
        unfold printP wordsP numS
        rw [txt_join]
        cases ks with
        | nil => exact absurd rfl hne
        | cons k ks => simp only [j1, j2, s_at_, s_by_, s_times_, s_write_, s_of_, s_head_, app_assoc]
      rw [← e9] at hq
      exact hq
    · rename_i v k
      obtain ⟨⟨h1, h2⟩, hk⟩ := ho
      have e1 := num_sok (i := v) ⟨by omega, by omega⟩
      have e3 : (numS v).length ≤ 101 := e1.2.2
      unfold numS at e3
      have e4 := hk.2.2
      refine ⟨e1.1, e1.2.1, ?_⟩
      (walk_at "dl")
      refine ⟨sz_small (by simp only [app_len, k_at_, k_sp, k_many, k_did, k_wrote, k_among, k_by_, k_times_, k_write_, k_of_, k_head_]; omega), ?_⟩
      refine ⟨sz_small (by simp only [app_len, k_at_, k_sp, k_many, k_did, k_wrote, k_among, k_by_, k_times_, k_write_, k_of_, k_head_]; omega), ?_⟩
      refine ⟨sz_small (by simp only [app_len, k_at_, k_sp, k_many, k_did, k_wrote, k_among, k_by_, k_times_, k_write_, k_of_, k_head_]; omega), ?_⟩
      refine ⟨sz_small (by simp only [app_len, k_at_, k_sp, k_many, k_did, k_wrote, k_among, k_by_, k_times_, k_write_, k_of_, k_head_]; omega), ?_⟩
      refine ⟨sz_small (by simp only [app_len, k_at_, k_sp, k_many, k_did, k_wrote, k_among, k_by_, k_times_, k_write_, k_of_, k_head_]; omega), ?_⟩
      have e9 : ((Str.ofString "at ") ++ Str.ofString (toString v) ++ (Str.ofString " ") ++ (Str.ofString "did") ++ (Str.ofString " ") ++ k : Str) = printP (.did v k) := by
        unfold printP wordsP numS
        simp only [j1, j2, s_at_, s_by_, s_times_, s_write_, s_of_, s_head_, app_assoc]
      rw [← e9] at hq
      exact hq
    · rename_i k v n
      obtain ⟨⟨h1, h2⟩, hk, h3, h4⟩ := ho
      have e1 := num_sok (i := v) ⟨by omega, by omega⟩
      have e2 := num_sok (i := n) ⟨by omega, by omega⟩
      have e3 : (numS v).length ≤ 101 := e1.2.2
      have e4 : (numS n).length ≤ 101 := e2.2.2
      unfold numS at e3 e4
      have e5 := hk.2.2
      refine ⟨e1.1, e1.2.1, ?_⟩
      (walk_at "dl")
      refine ⟨sz_small (by simp only [app_len, k_at_, k_sp, k_many, k_did, k_wrote, k_among, k_by_, k_times_, k_write_, k_of_, k_head_]; omega), ?_⟩
      refine ⟨sz_small (by simp only [app_len, k_at_, k_sp, k_many, k_did, k_wrote, k_among, k_by_, k_times_, k_write_, k_of_, k_head_]; omega), ?_⟩
      refine ⟨sz_small (by simp only [app_len, k_at_, k_sp, k_many, k_did, k_wrote, k_among, k_by_, k_times_, k_write_, k_of_, k_head_]; omega), ?_⟩
      refine ⟨sz_small (by simp only [app_len, k_at_, k_sp, k_many, k_did, k_wrote, k_among, k_by_, k_times_, k_write_, k_of_, k_head_]; omega), ?_⟩
      refine ⟨e2.1, e2.2.1, ?_⟩
      (walk_at "dl")
      refine ⟨sz_small (by simp only [app_len, k_at_, k_sp, k_many, k_did, k_wrote, k_among, k_by_, k_times_, k_write_, k_of_, k_head_]; omega), ?_⟩
      have e9 : ((Str.ofString "by ") ++ Str.ofString (toString v) ++ (Str.ofString " times ") ++ k ++ (Str.ofString " ") ++ Str.ofString (toString n) : Str) = printP (.times k v n) := by
        unfold printP wordsP numS
        simp only [j1, j2, s_at_, s_by_, s_times_, s_write_, s_of_, s_head_, app_assoc]
      rw [← e9] at hq
      exact hq
    · rename_i k n x
      obtain ⟨⟨h1, h2⟩, hk, h3, h4⟩ := ho
      have e1 := num_sok (i := n) ⟨by omega, by omega⟩
      have e2 := num_sok (i := x) ⟨by omega, by omega⟩
      have e3 : (numS n).length ≤ 101 := e1.2.2
      have e4 : (numS x).length ≤ 101 := e2.2.2
      unfold numS at e3 e4
      have e5 := hk.2.2
      refine ⟨e1.1, e1.2.1, ?_⟩
      (walk_at "dl")
      refine ⟨sz_small (by simp only [app_len, k_at_, k_sp, k_many, k_did, k_wrote, k_among, k_by_, k_times_, k_write_, k_of_, k_head_]; omega), ?_⟩
      refine ⟨sz_small (by simp only [app_len, k_at_, k_sp, k_many, k_did, k_wrote, k_among, k_by_, k_times_, k_write_, k_of_, k_head_]; omega), ?_⟩
      refine ⟨sz_small (by simp only [app_len, k_at_, k_sp, k_many, k_did, k_wrote, k_among, k_by_, k_times_, k_write_, k_of_, k_head_]; omega), ?_⟩
      refine ⟨sz_small (by simp only [app_len, k_at_, k_sp, k_many, k_did, k_wrote, k_among, k_by_, k_times_, k_write_, k_of_, k_head_]; omega), ?_⟩
      refine ⟨e2.1, e2.2.1, ?_⟩
      (walk_at "dl")
      refine ⟨sz_small (by simp only [app_len, k_at_, k_sp, k_many, k_did, k_wrote, k_among, k_by_, k_times_, k_write_, k_of_, k_head_]; omega), ?_⟩
      have e9 : ((Str.ofString "write ") ++ Str.ofString (toString n) ++ (Str.ofString " of ") ++ k ++ (Str.ofString " ") ++ Str.ofString (toString x) : Str) = printP (.value k n x) := by
        unfold printP wordsP numS
        simp only [j1, j2, s_at_, s_by_, s_times_, s_write_, s_of_, s_head_, app_assoc]
      rw [← e9] at hq
      exact hq
    · rename_i v
      have e1 := num_sok (i := v) ⟨by have := ho.1; omega, by have := ho.2; omega⟩
      have e3 : (numS v).length ≤ 101 := e1.2.2
      unfold numS at e3
      refine ⟨e1.1, e1.2.1, ?_⟩
      (walk_at "dl")
      refine ⟨sz_small (by simp only [app_len, k_at_, k_sp, k_many, k_did, k_wrote, k_among, k_by_, k_times_, k_write_, k_of_, k_head_]; omega), ?_⟩
      have e9 : ((Str.ofString "head ") ++ Str.ofString (toString v) : Str) = printP (.head v) := by
        unfold printP wordsP numS
        simp only [j1, j2, s_at_, s_by_, s_times_, s_write_, s_of_, s_head_, app_assoc]
      rw [← e9] at hq
      exact hq
  · exact h.elim
)

end
end K41
end

-- part A8
section
local macro_rules | `(tactic| walk_at "dl") => `(tactic| simp only [DL.sRet, DL.dJoined, DL.dJs, DL.dFmt, DL.dFld, DL.dMeth, DL.dMake, DL.sFld, DL.sFldI, DL.sSeq, DL.sSet, DL.sIf, DL.sNext, DL.sNever, DL.sDrop, DL.sAsg, DL.sRetN, DL.dVar, DL.dC, DL.dOp, DL.dTest, DL.dAnd, DL.dOr, DL.dNot, DL.dTru, DL.dAndV, DL.dOrV, DL.dNotV, DL.dIf, DL.aNil, DL.aCons, DL.dTup, DL.dLst, DL.dLstM, DL.dCall, DL.dFrz, DL.dB, DL.dNeg, DL.dSl, DL.oNone, DL.oSome, DL.dChn, DL.gN, DL.gT, DL.setAll,
  DL.ix_l, DL.ix_t, DL.ix_s, DL.ix_p, DL.add_i, DL.add_s, DL.add_l, DL.add_t, DL.mul_i, DL.mul_b, DL.sub_i, DL.fdiv_i, DL.mod_i, DL.pow_i, DL.shl_i, DL.shr_i, DL.and_i, DL.lt_i, DL.le_i, DL.gt_i, DL.ge_i, DL.le_s, DL.in_t, DL.in_l, DL.in_s, DL.len_l, DL.len_t, DL.len_s, DL.len_p, DL.list_l, DL.list_t, DL.list_s, DL.list_p, DL.tuple_l, DL.tuple_t, DL.int_i, DL.int_b, DL.abs_i, DL.max_i, DL.min_i, DL.all_l, DL.any_l, DL.isi_1, DL.isi_n, DL.sl_l, DL.sl_t, DL.sl_s, DL.neg_i, DL.isN_i, DL.notN_i, DL.eq_x, DL.ne_x,
  DL.w_wrote_many, DL.w_wrote_many_b, DL.w_wrote_among, DL.w_wrote_among_b, DL.w_wrote_did, DL.w_wrote_did_b, DL.w_wrote_times, DL.w_wrote_times_b, DL.w_wrote_value, DL.w_wrote_value_b, DL.w_wrote_head, DL.w_wrote_head_b, DL.w_many_wrote, DL.w_many_wrote_b, DL.w_many_among, DL.w_many_among_b, DL.w_many_did, DL.w_many_did_b, DL.w_many_times, DL.w_many_times_b, DL.w_many_value, DL.w_many_value_b, DL.w_many_head, DL.w_many_head_b, DL.w_among_wrote, DL.w_among_wrote_b, DL.w_among_many, DL.w_among_many_b, DL.w_among_did, DL.w_among_did_b, DL.w_among_times, DL.w_among_times_b, DL.w_among_value, DL.w_among_value_b, DL.w_among_head, DL.w_among_head_b, DL.w_did_wrote, DL.w_did_wrote_b, DL.w_did_many, DL.w_did_many_b, DL.w_did_among, DL.w_did_among_b, DL.w_did_times, DL.w_did_times_b, DL.w_did_value, DL.w_did_value_b, DL.w_did_head, DL.w_did_head_b, DL.w_times_wrote, DL.w_times_wrote_b, DL.w_times_many, DL.w_times_many_b, DL.w_times_among, DL.w_times_among_b, DL.w_times_did, DL.w_times_did_b, DL.w_times_value, DL.w_times_value_b, DL.w_times_head, DL.w_times_head_b, DL.w_value_wrote, DL.w_value_wrote_b, DL.w_value_many, DL.w_value_many_b, DL.w_value_among, DL.w_value_among_b, DL.w_value_did, DL.w_value_did_b, DL.w_value_times, DL.w_value_times_b, DL.w_value_head, DL.w_value_head_b, DL.w_head_wrote, DL.w_head_wrote_b, DL.w_head_many, DL.w_head_many_b, DL.w_head_among, DL.w_head_among_b, DL.w_head_did, DL.w_head_did_b, DL.w_head_times, DL.w_head_times_b, DL.w_head_value, DL.w_head_value_b,
  DL.q_ss, DL.q_ii, DL.q_bb, DL.q_nn, DL.q_tt, DL.q_ll, DL.q_si, DL.q_sn, DL.q_st, DL.q_sl, DL.q_is, DL.q_in, DL.q_it, DL.q_il, DL.q_ns, DL.q_ni, DL.q_nt, DL.q_nl, DL.q_ts, DL.q_ti, DL.q_tn, DL.q_tl, DL.q_ls, DL.q_li, DL.q_ln, DL.q_lt, DL.qs_nil, DL.qs_cons, DL.qs_nc, DL.qs_cn, DL.p_t16, DL.p_l16, DL.p_t15, DL.p_l15, DL.p_t14, DL.p_l14, DL.p_t13, DL.p_l13, DL.p_t12, DL.p_l12, DL.p_s, DL.p_i, DL.p_b, DL.p_n, DL.ps_nil, DL.ps_cons, DL.t_b, DL.t_i, DL.t_l, DL.t_t, DL.t_n, DL.n_n, DL.n_i, DL.n_s, DL.n_t, DL.n_l, DL.n_b, DL.f_s, DL.f_i,
  Bool.false_and, Bool.and_false, DL.z0, DL.z1, DL.z2, DL.z3, DL.z4, DL.z5, DL.z6, DL.z12,
  DL.startD, DL.sFrz, DL.sApp, DL.yesD, DL.lcTurn, DL.wipeE, DL.at0, DL.at1, DL.at2, DL.at3, DL.at4, List.map_cons, List.map_nil, List.replicate_succ, List.replicate_zero, List.length_cons, List.length_nil, List.cons_append, List.nil_append, List.set_cons_zero, List.set_cons_succ, List.getElem?_cons_zero, List.getElem?_cons_succ, Option.some.injEq, exists_eq_left, exists_eq_left', exists_eq', exists_eq, true_and, and_true, decide_eq_true_eq, if_true, if_false, Bool.false_eq_true, reduceIte, Nat.reduceAdd, Nat.reduceSub, DL.D.bl.injEq, DL.D.int.injEq, DL.D.str.injEq, DL.D.tup.injEq, DL.D.lst.injEq, DL.D.ptr.injEq, Bool.not_true, Bool.not_false, beq_self_eq_true, List.all_cons, List.all_nil, List.any_cons, List.any_nil, Bool.and_true, Bool.true_and, Bool.or_false, Bool.false_or, Bool.or_true, Bool.true_or, Bool.false_xor, Bool.true_xor, beq_iff_eq, Bool.not_eq_true, Int.reduceEq, Int.reduceBEq, and_self])

namespace K41
open PySem L2 DL PySem.NumText
def C_print_news : CT := fun ds μ Q => match ds with
  | [n] => ∃ ns : List Pc, n = eNews ns ∧ ns.length ≤ 7 ∧ (∀ q ∈ ns, okP q) ∧ Q (.str (Str.join "; " (ns.map printP))) μ
  | _ => False
theorem join_gen {sep : Str} {n : Nat} (h2 : sep.length ≤ 2) (hs : ∀ c ∈ sep.cps.toList, c < 128) : ∀ l : List Str, (∀ k ∈ l, k.length ≤ n ∧ ∀ c ∈ k.cps.toList, c < 128) → (Str.join sep l).length ≤ (n + 2) * l.length ∧ ∀ c ∈ (Str.join sep l).cps.toList, c < 128 := by
  intro l
  induction l with
  | nil => intro _; exact ⟨by rw [show (Str.join sep []).length = 0 from rfl]; omega, fun c hc => by rw [show (Str.join sep []).cps.toList = [] from rfl] at hc; cases hc⟩
  | cons a l ih =>
    intro hl
    have ha := hl a (by simp)
    obtain ⟨i2, i3⟩ := ih fun k hk => hl k (by simp [hk])
    refine ⟨?_, ?_⟩
    · rw [List.length_cons, Nat.mul_succ]
      cases l with
      | nil => rw [j1]; have := ha.1; omega
      | cons b l => rw [j2, app_len, app_len]; have := ha.1; omega
    · cases l with
      | nil => rw [j1]; exact ha.2
      | cons b l =>
        rw [j2, app_l, app_l]
        intro c hm
        rcases List.mem_append.mp hm with hm | hm
        · rcases List.mem_append.mp hm with hm | hm
          · exact ha.2 c hm
          · exact hs c hm
        · exact i3 c hm
theorem sum_le {n : Nat} : ∀ l : List Str, (∀ k ∈ l, k.length ≤ n) → (l.map (·.length)).sum ≤ n * l.length
  | [], _ => by simp
  | a :: l, h => by
    have h1 := h a (by simp)
    have h2 := sum_le l fun k hk => h k (by simp [hk])
    rw [List.map_cons, List.sum_cons, List.length_cons, Nat.mul_succ]
    omega
theorem okW_num {i : Int} (h : -1000000 ≤ i ∧ i ≤ 1000000) : (numS i).length ≤ 101 ∧ ∀ c ∈ (numS i).cps.toList, c < 128 := ⟨(num_sok h).2.2, (num_T h).len.2⟩
theorem okW_key {k : Str} (h : okKey k) : k.length ≤ 101 ∧ ∀ c ∈ k.cps.toList, c < 128 := ⟨by have := h.2.2; omega, fun c hc => by have := h.2.1 c hc; simp [isL] at this; omega⟩
theorem okW_lit {k : Str} (h1 : k.length ≤ 101) (h2 : ∀ c ∈ k.cps.toList, c < 128) : k.length ≤ 101 ∧ ∀ c ∈ k.cps.toList, c < 128 := ⟨h1, h2⟩
theorem words_ok {q : Pc} (h : okP q) : (wordsP q).length ≤ 8 ∧ ∀ k ∈ wordsP q, k.length ≤ 101 ∧ ∀ c ∈ k.cps.toList, c < 128 := by
  cases q <;> unfold okP at h <;> unfold wordsP <;> simp only [List.mem_cons, List.not_mem_nil, or_false, List.length_cons, List.length_nil]
  · refine ⟨by have := h.2.2.1; omega, ?_⟩
    rintro k (rfl | rfl | rfl | hk)
    · exact okW_lit (by decide +kernel) (by decide +kernel)
    · exact okW_num ⟨by omega, by omega⟩
    · exact okW_lit (by decide +kernel) (by decide +kernel)
    · exact okW_key (h.2.2.2.2 k hk)
  · refine ⟨by omega, ?_⟩
    rintro k (rfl | rfl | rfl | rfl)
    · exact okW_lit (by decide +kernel) (by decide +kernel)
    · exact okW_num ⟨by omega, by omega⟩
    · exact okW_lit (by decide +kernel) (by decide +kernel)
    · exact okW_num ⟨by omega, by omega⟩
  · refine ⟨by have := h.2.2.1; omega, ?_⟩
    rintro k (rfl | rfl | rfl | hk)
    · exact okW_lit (by decide +kernel) (by decide +kernel)
    · exact okW_num ⟨by omega, by omega⟩
    · exact okW_lit (by decide +kernel) (by decide +kernel)
    · exact okW_key (h.2.2.2.2 k hk)
  · refine ⟨by omega, ?_⟩
    rintro k (rfl | rfl | rfl | rfl)
    · exact okW_lit (by decide +kernel) (by decide +kernel)
    · exact okW_num ⟨by omega, by omega⟩
    · exact okW_lit (by decide +kernel) (by decide +kernel)
    · exact okW_key h.2
  · refine ⟨by omega, ?_⟩
    rintro k (rfl | rfl | rfl | rfl | rfl)
    · exact okW_lit (by decide +kernel) (by decide +kernel)
    · exact okW_num ⟨by omega, by omega⟩
    · exact okW_lit (by decide +kernel) (by decide +kernel)
    · exact okW_key h.2.1
    · exact okW_num ⟨by omega, by omega⟩
  · refine ⟨by omega, ?_⟩
    rintro k (rfl | rfl | rfl | rfl | rfl)
    · exact okW_lit (by decide +kernel) (by decide +kernel)
    · exact okW_num ⟨by omega, by omega⟩
    · exact okW_lit (by decide +kernel) (by decide +kernel)
    · exact okW_key h.2.1
    · exact okW_num ⟨by omega, by omega⟩
  · refine ⟨by omega, ?_⟩
    rintro k (rfl | rfl)
    · exact okW_lit (by decide +kernel) (by decide +kernel)
    · exact okW_num ⟨by omega, by omega⟩
theorem print_ok {q : Pc} (h : okP q) : (printP q).length ≤ 824 ∧ ∀ c ∈ (printP q).cps.toList, c < 128 := by
  have hw := words_ok h
  have hj := join_gen (sep := " ") (n := 101) (by decide +kernel) (by decide +kernel) (wordsP q) hw.2
  refine ⟨?_, hj.2⟩
  unfold printP
  have := hw.1
  have h2 := hj.1
  have h3 : (101 + 2) * (wordsP q).length ≤ (101 + 2) * 8 := Nat.mul_le_mul_left _ this
  omega
theorem k_empty : Str.empty.length = 0 := rfl
theorem e_app (a : Str) : Str.empty ++ a = a := str_ext (by rw [app_l]; rfl)
theorem sok_ap {a b : Str} (ha : SOk a) (hb : SOk b) (hl : a.length + b.length ≤ 10000) : SOk (a ++ b) := sok_add ha hb (sz_small hl)
section
variable {P : Program} {w : World} {K : PySem.W.Frag} {mg : Str → Option Value} {base : Heap}
theorem ok_print_piece (T : Tx K mg) : FnOk P w K mg base CX0 1 T.a_print_piece T.d_print_piece ["piece"] (spD K C_print_piece) :=
  DL.Fun.okD (N := ["piece", "word", "version", "keys", "what", "key", "number", "_", "value"]) T.F_print_piece sc_print_piece (fun cdv A outer s H E hr => 
      (dss_cons (ds_if (dt_cmp op_inD2 od_in (de_ix ix_seq od_ix (dv 0) de_int (fun _ _ => rfl)) (de_tup (da_cons (de_str) (da_cons (de_str) da_nil))) (by rfl)) 
      (dss_cons (ds_asg (dv 0) (dg_tup [1, 2, 3] rfl (pgs_cons (pg_name (i := 1) sc_print_piece.nd rfl (by first | exact Or.inl rfl | exact Or.inr rfl)) (pgs_cons (pg_name (i := 2) sc_print_piece.nd rfl (by first | exact Or.inl rfl | exact Or.inr rfl)) (pgs_cons (pg_name (i := 3) sc_print_piece.nd rfl (by first | exact Or.inl rfl | exact Or.inr rfl)) pgs_nil))))) 
      (dss_one (ds_ret (de_op op_addD od_add (de_joined (.cons de_str (.cons (de_fmt (dv 2)) (.cons de_str (.cons (de_fmt (dv 1)) (.cons de_str .nil)))))) (de_join (de_str) (dv 3)))))) dss_nil) 
      (dss_cons (ds_if (dt_cmp op_inD2 od_in (de_ix ix_seq od_ix (dv 0) de_int (fun _ _ => rfl)) (de_tup (da_cons (de_str) (da_cons (de_str) da_nil))) (by rfl)) 
      (dss_cons (ds_asg (dv 0) (dg_tup [1, 2, 4] rfl (pgs_cons (pg_name (i := 1) sc_print_piece.nd rfl (by first | exact Or.inl rfl | exact Or.inr rfl)) (pgs_cons (pg_name (i := 2) sc_print_piece.nd rfl (by first | exact Or.inl rfl | exact Or.inr rfl)) (pgs_cons (pg_name (i := 4) sc_print_piece.nd rfl (by first | exact Or.inl rfl | exact Or.inr rfl)) pgs_nil))))) 
      (dss_one (ds_ret (de_joined (.cons de_str (.cons (de_fmt (dv 2)) (.cons de_str (.cons (de_fmt (dv 1)) (.cons de_str (.cons (de_fmt (dv 4)) .nil)))))))))) dss_nil) 
      (dss_cons (ds_if (dt_cmp (op_eqD hr.units) od_eq (de_ix ix_seq od_ix (dv 0) de_int (fun _ _ => rfl)) (de_str) (nomark _)) 
      (dss_cons (ds_asg (dv 0) (dg_tup [1, 5, 2, 6] rfl (pgs_cons (pg_name (i := 1) sc_print_piece.nd rfl (by first | exact Or.inl rfl | exact Or.inr rfl)) (pgs_cons (pg_name (i := 5) sc_print_piece.nd rfl (by first | exact Or.inl rfl | exact Or.inr rfl)) (pgs_cons (pg_name (i := 2) sc_print_piece.nd rfl (by first | exact Or.inl rfl | exact Or.inr rfl)) (pgs_cons (pg_name (i := 6) sc_print_piece.nd rfl (by first | exact Or.inl rfl | exact Or.inr rfl)) pgs_nil)))))) 
      (dss_one (ds_ret (de_joined (.cons de_str (.cons (de_fmt (dv 2)) (.cons de_str (.cons (de_fmt (dv 1)) (.cons de_str (.cons (de_fmt (dv 5)) (.cons de_str (.cons (de_fmt (dv 6)) .nil)))))))))))) dss_nil) 
      (dss_cons (ds_if (dt_cmp (op_eqD hr.units) od_eq (de_ix ix_seq od_ix (dv 0) de_int (fun _ _ => rfl)) (de_str) (nomark _)) 
      (dss_cons (ds_asg (dv 0) (dg_tup [7, 5, 6, 8] rfl (pgs_cons (pg_name (i := 7) sc_print_piece.nd rfl (by first | exact Or.inl rfl | exact Or.inr rfl)) (pgs_cons (pg_name (i := 5) sc_print_piece.nd rfl (by first | exact Or.inl rfl | exact Or.inr rfl)) (pgs_cons (pg_name (i := 6) sc_print_piece.nd rfl (by first | exact Or.inl rfl | exact Or.inr rfl)) (pgs_cons (pg_name (i := 8) sc_print_piece.nd rfl (by first | exact Or.inl rfl | exact Or.inr rfl)) pgs_nil)))))) 
      (dss_one (ds_ret (de_joined (.cons de_str (.cons (de_fmt (dv 6)) (.cons de_str (.cons (de_fmt (dv 5)) (.cons de_str (.cons (de_fmt (dv 8)) .nil)))))))))) dss_nil) 
      (dss_cons (ds_asg (dv 0) (dg_tup [1, 2] rfl (pgs_cons (pg_name (i := 1) sc_print_piece.nd rfl (by first | exact Or.inl rfl | exact Or.inr rfl)) (pgs_cons (pg_name (i := 2) sc_print_piece.nd rfl (by first | exact Or.inl rfl | exact Or.inr rfl)) pgs_nil)))) 
      (dss_one (ds_ret (de_joined (.cons (de_fmt (dv 1)) (.cons de_str (.cons (de_fmt (dv 2)) .nil))))))))))))
    (by intro ds μ Q h; unfold C_print_piece at h; split at h <;> first | rfl | exact h.elim) (by
  intro ds μ Q h
  unfold C_print_piece at h
  split at h
  · obtain ⟨q, rfl, ho, hq⟩ := h
    cases q <;> unfold ePc <;> (walk_at "dl")
    · rename_i v ks
      obtain ⟨⟨h1, h2⟩, hne, h5, hsd, hk⟩ := ho
      have a := num_sok (i := v) ⟨by omega, by omega⟩
      have al : (Str.ofString (toString v)).length ≤ 101 := a.2.2
      have as : SOk (Str.ofString (toString v)) := a.2.1
      have ag : v.natAbs.log2 < 1920 := a.1
      have ej := join_ok ks h5 hk
      have e4 := ej.2.2
      (repeat' (refine And.intro (by first | assumption | (exact sz_small (by simp only [app_len, k_at_, k_sp, k_many, k_did, k_wrote, k_among, k_by_, k_times_, k_write_, k_of_, k_head_, k_times, k_head, k_empty]; omega)) | (repeat' (first | assumption | (refine sok_ap ?_ ?_ (by simp only [app_len, k_at_, k_sp, k_many, k_did, k_wrote, k_among, k_by_, k_times_, k_write_, k_of_, k_head_, k_times, k_head, k_empty]; omega)) | (exact (by decide +kernel))))) ?_))
      unfold dJoin eKeys
      (walk_at "dl")
      refine ⟨_, ks, Or.inr rfl, strs_map ks, ej.1, ej.2.1, ?_⟩
      (repeat' (refine And.intro (by first | assumption | (exact sz_small (by simp only [app_len, k_at_, k_sp, k_many, k_did, k_wrote, k_among, k_by_, k_times_, k_write_, k_of_, k_head_, k_times, k_head, k_empty]; omega)) | (repeat' (first | assumption | (refine sok_ap ?_ ?_ (by simp only [app_len, k_at_, k_sp, k_many, k_did, k_wrote, k_among, k_by_, k_times_, k_write_, k_of_, k_head_, k_times, k_head, k_empty]; omega)) | (exact (by decide +kernel))))) ?_))
      have e9 : (Str.empty ++ Str.ofString "at " ++ Str.ofString (toString v) ++ Str.ofString " " ++ Str.ofString "wrote" ++ Str.ofString " " ++ Txt.join (Str.ofString " ") ks : Str) = printP (.wrote v ks) := by
        unfold printP wordsP numS
        rw [txt_join]
        cases ks with
        | nil => exact absurd rfl hne
        | cons k ks => simp only [j1, j2, e_app, s_at_, s_by_, s_times_, s_write_, s_of_, s_head_, app_assoc]
      rw [← e9] at hq
      exact hq
    · rename_i v n
      obtain ⟨⟨h1, h2⟩, h3, h4⟩ := ho
      have a := num_sok (i := v) ⟨by omega, by omega⟩
      have al : (Str.ofString (toString v)).length ≤ 101 := a.2.2
      have as : SOk (Str.ofString (toString v)) := a.2.1
      have ag : v.natAbs.log2 < 1920 := a.1
      have b := num_sok (i := n) ⟨by omega, by omega⟩
      have bl : (Str.ofString (toString n)).length ≤ 101 := b.2.2
      have bs : SOk (Str.ofString (toString n)) := b.2.1
      have bg : n.natAbs.log2 < 1920 := b.1
      (repeat' (refine And.intro (by first | assumption | (exact sz_small (by simp only [app_len, k_at_, k_sp, k_many, k_did, k_wrote, k_among, k_by_, k_times_, k_write_, k_of_, k_head_, k_times, k_head, k_empty]; omega)) | (repeat' (first | assumption | (refine sok_ap ?_ ?_ (by simp only [app_len, k_at_, k_sp, k_many, k_did, k_wrote, k_among, k_by_, k_times_, k_write_, k_of_, k_head_, k_times, k_head, k_empty]; omega)) | (exact (by decide +kernel))))) ?_))
      have e9 : (Str.empty ++ Str.ofString "at " ++ Str.ofString (toString v) ++ Str.ofString " " ++ Str.ofString "many" ++ Str.ofString " " ++ Str.ofString (toString n) : Str) = printP (.many v n) := by
        unfold printP wordsP numS
        simp only [j1, j2, e_app, s_at_, s_by_, s_times_, s_write_, s_of_, s_head_, app_assoc]
      rw [← e9] at hq
      exact hq
    · rename_i v ks
      obtain ⟨⟨h1, h2⟩, hne, h5, hsd, hk⟩ := ho
      have a := num_sok (i := v) ⟨by omega, by omega⟩
      have al : (Str.ofString (toString v)).length ≤ 101 := a.2.2
      have as : SOk (Str.ofString (toString v)) := a.2.1
      have ag : v.natAbs.log2 < 1920 := a.1
      have ej := join_ok ks h5 hk
      have e4 := ej.2.2
      (repeat' (refine And.intro (by first | assumption | (exact sz_small (by simp only [app_len, k_at_, k_sp, k_many, k_did, k_wrote, k_among, k_by_, k_times_, k_write_, k_of_, k_head_, k_times, k_head, k_empty]; omega)) | (repeat' (first | assumption | (refine sok_ap ?_ ?_ (by simp only [app_len, k_at_, k_sp, k_many, k_did, k_wrote, k_among, k_by_, k_times_, k_write_, k_of_, k_head_, k_times, k_head, k_empty]; omega)) | (exact (by decide +kernel))))) ?_))
      unfold dJoin eKeys
      (walk_at "dl")
      refine ⟨_, ks, Or.inr rfl, strs_map ks, ej.1, ej.2.1, ?_⟩
      (repeat' (refine And.intro (by first | assumption | (exact sz_small (by simp only [app_len, k_at_, k_sp, k_many, k_did, k_wrote, k_among, k_by_, k_times_, k_write_, k_of_, k_head_, k_times, k_head, k_empty]; omega)) | (repeat' (first | assumption | (refine sok_ap ?_ ?_ (by simp only [app_len, k_at_, k_sp, k_many, k_did, k_wrote, k_among, k_by_, k_times_, k_write_, k_of_, k_head_, k_times, k_head, k_empty]; omega)) | (exact (by decide +kernel))))) ?_))
      have e9 : (Str.empty ++ Str.ofString "at " ++ Str.ofString (toString v) ++ Str.ofString " " ++ Str.ofString "among" ++ Str.ofString " " ++ Txt.join (Str.ofString " ") ks : Str) = printP (.among v ks) := by
        unfold printP wordsP numS
        rw [txt_join]
        cases ks with
        | nil => exact absurd rfl hne
        | cons k ks => simp only [j1, j2, e_app, s_at_, s_by_, s_times_, s_write_, s_of_, s_head_, app_assoc]
      rw [← e9] at hq
      exact hq
    · rename_i v k
      obtain ⟨⟨h1, h2⟩, hk⟩ := ho
      have a := num_sok (i := v) ⟨by omega, by omega⟩
      have al : (Str.ofString (toString v)).length ≤ 101 := a.2.2
      have as : SOk (Str.ofString (toString v)) := a.2.1
      have ag : v.natAbs.log2 < 1920 := a.1
      have s5 : SOk k := sok_str (fun c hc => by have := hk.2.1 c hc; simp [isL] at this; omega) (by have := hk.2.2; omega)
      have e5 := hk.2.2
      (repeat' (refine And.intro (by first | assumption | (exact sz_small (by simp only [app_len, k_at_, k_sp, k_many, k_did, k_wrote, k_among, k_by_, k_times_, k_write_, k_of_, k_head_, k_times, k_head, k_empty]; omega)) | (repeat' (first | assumption | (refine sok_ap ?_ ?_ (by simp only [app_len, k_at_, k_sp, k_many, k_did, k_wrote, k_among, k_by_, k_times_, k_write_, k_of_, k_head_, k_times, k_head, k_empty]; omega)) | (exact (by decide +kernel))))) ?_))
      have e9 : (Str.empty ++ Str.ofString "at " ++ Str.ofString (toString v) ++ Str.ofString " " ++ Str.ofString "did" ++ Str.ofString " " ++ k : Str) = printP (.did v k) := by
        unfold printP wordsP numS
        simp only [j1, j2, e_app, s_at_, s_by_, s_times_, s_write_, s_of_, s_head_, app_assoc]
      rw [← e9] at hq
      exact hq
    · rename_i k v n
      obtain ⟨⟨h1, h2⟩, hk, h3, h4⟩ := ho
      have a := num_sok (i := v) ⟨by omega, by omega⟩
      have al : (Str.ofString (toString v)).length ≤ 101 := a.2.2
      have as : SOk (Str.ofString (toString v)) := a.2.1
      have ag : v.natAbs.log2 < 1920 := a.1
      have b := num_sok (i := n) ⟨by omega, by omega⟩
      have bl : (Str.ofString (toString n)).length ≤ 101 := b.2.2
      have bs : SOk (Str.ofString (toString n)) := b.2.1
      have bg : n.natAbs.log2 < 1920 := b.1
      have s5 : SOk k := sok_str (fun c hc => by have := hk.2.1 c hc; simp [isL] at this; omega) (by have := hk.2.2; omega)
      have e5 := hk.2.2
      (repeat' (refine And.intro (by first | assumption | (exact sz_small (by simp only [app_len, k_at_, k_sp, k_many, k_did, k_wrote, k_among, k_by_, k_times_, k_write_, k_of_, k_head_, k_times, k_head, k_empty]; omega)) | (repeat' (first | assumption | (refine sok_ap ?_ ?_ (by simp only [app_len, k_at_, k_sp, k_many, k_did, k_wrote, k_among, k_by_, k_times_, k_write_, k_of_, k_head_, k_times, k_head, k_empty]; omega)) | (exact (by decide +kernel))))) ?_))
      have e9 : (Str.empty ++ Str.ofString "by " ++ Str.ofString (toString v) ++ Str.ofString " " ++ Str.ofString "times" ++ Str.ofString " " ++ k ++ Str.ofString " " ++ Str.ofString (toString n) : Str) = printP (.times k v n) := by
        unfold printP wordsP numS
        simp only [j1, j2, e_app, s_at_, s_by_, s_times_, s_write_, s_of_, s_head_, app_assoc]
      rw [← e9] at hq
      exact hq
    · rename_i k n x
      obtain ⟨⟨h1, h2⟩, hk, h3, h4⟩ := ho
      have a := num_sok (i := n) ⟨by omega, by omega⟩
      have al : (Str.ofString (toString n)).length ≤ 101 := a.2.2
      have as : SOk (Str.ofString (toString n)) := a.2.1
      have ag : n.natAbs.log2 < 1920 := a.1
      have b := num_sok (i := x) ⟨by omega, by omega⟩
      have bl : (Str.ofString (toString x)).length ≤ 101 := b.2.2
      have bs : SOk (Str.ofString (toString x)) := b.2.1
      have bg : x.natAbs.log2 < 1920 := b.1
      have s5 : SOk k := sok_str (fun c hc => by have := hk.2.1 c hc; simp [isL] at this; omega) (by have := hk.2.2; omega)
      have e5 := hk.2.2
      (repeat' (refine And.intro (by first | assumption | (exact sz_small (by simp only [app_len, k_at_, k_sp, k_many, k_did, k_wrote, k_among, k_by_, k_times_, k_write_, k_of_, k_head_, k_times, k_head, k_empty]; omega)) | (repeat' (first | assumption | (refine sok_ap ?_ ?_ (by simp only [app_len, k_at_, k_sp, k_many, k_did, k_wrote, k_among, k_by_, k_times_, k_write_, k_of_, k_head_, k_times, k_head, k_empty]; omega)) | (exact (by decide +kernel))))) ?_))
      have e9 : (Str.empty ++ Str.ofString "write " ++ Str.ofString (toString n) ++ Str.ofString " of " ++ k ++ Str.ofString " " ++ Str.ofString (toString x) : Str) = printP (.value k n x) := by
        unfold printP wordsP numS
        simp only [j1, j2, e_app, s_at_, s_by_, s_times_, s_write_, s_of_, s_head_, app_assoc]
      rw [← e9] at hq
      exact hq
    · rename_i v
      obtain ⟨h1, h2⟩ := ho
      have a := num_sok (i := v) ⟨by omega, by omega⟩
      have al : (Str.ofString (toString v)).length ≤ 101 := a.2.2
      have as : SOk (Str.ofString (toString v)) := a.2.1
      have ag : v.natAbs.log2 < 1920 := a.1
      (repeat' (refine And.intro (by first | assumption | (exact sz_small (by simp only [app_len, k_at_, k_sp, k_many, k_did, k_wrote, k_among, k_by_, k_times_, k_write_, k_of_, k_head_, k_times, k_head, k_empty]; omega)) | (repeat' (first | assumption | (refine sok_ap ?_ ?_ (by simp only [app_len, k_at_, k_sp, k_many, k_did, k_wrote, k_among, k_by_, k_times_, k_write_, k_of_, k_head_, k_times, k_head, k_empty]; omega)) | (exact (by decide +kernel))))) ?_))
      have e9 : (Str.empty ++ Str.ofString "head" ++ Str.ofString " " ++ Str.ofString (toString v) : Str) = printP (.head v) := by
        unfold printP wordsP numS
        simp only [j1, j2, e_app, s_at_, s_by_, s_times_, s_write_, s_of_, s_head_, app_assoc]
      rw [← e9] at hq
      exact hq
  · exact h.elim
)

theorem ok_print_news (T : Tx K mg) : FnOk P w K mg base CX0 2 T.a_print_news T.d_print_news ["news"] (spD K C_print_news) :=
  DL.Fun.okD (N := ["news", "piece"]) T.F_print_news sc_print_news (fun cdv A outer s H E hr => 
      (dss_one (ds_ret (de_join (de_str) (de_lc [("piece", 1)] rfl sc_print_news.nd (di_seq (dv 0)) (blkOk_by (sc := (defScope s_print_news)) (own := [("piece", 1)]) (N := ["news", "piece"]) (by decide +kernel)) (fun _ _ _ _ _ => (dg_name 1 sc_print_news.nd)) (fun _ _ _ _ _ => dts_nil) (fun _ _ _ _ _ => (de_call (ok_print_piece T) (hr.mono (by decide)) (by rfl) T.m_print_piece T.k_print_piece T.v_print_piece pass0 (da_cons (dv 1) da_nil))))))))
    (by intro ds μ Q h; unfold C_print_news at h; split at h <;> first | rfl | exact h.elim) (by
  intro ds μ Q h
  unfold C_print_news at h
  split at h
  · obtain ⟨ns, rfl, hl, ho, hq⟩ := h
    unfold dJoin
    (walk_at "dl")
    refine lc_mapT ns ePc (fun q => .str (printP q)) (seq_l fun R h => ?_) (fun q hqm p acc hp N hN => ?_) ?_
    · unfold eNews
      (walk_at "dl")
      exact h
    · (walk_at "dl")
      exact ⟨q, rfl, ho q hqm, hN _ rfl⟩
    · have hp : ∀ k ∈ ns.map printP, k.length ≤ 824 ∧ ∀ c ∈ k.cps.toList, c < 128 := fun k hk => by
        obtain ⟨q, hq1, rfl⟩ := List.mem_map.mp hk
        exact print_ok (ho q hq1)
      have hj := join_gen (sep := "; ") (n := 824) (by decide +kernel) (by decide +kernel) (ns.map printP) hp
      have hs : ((ns.map printP).map (·.length)).sum ≤ 824 * (ns.map printP).length := sum_le _ fun k hk => (hp k hk).1
      rw [List.length_map] at hj hs
      refine ⟨_, ns.map printP, Or.inl rfl, by rw [show (ns.map fun q => D.str (printP q)) = (ns.map printP).map D.str by rw [List.map_map]; rfl]; exact strs_map _, ?_, ?_, ?_⟩
      · rw [List.length_map, show (Str.ofString "; ").length = 2 from by decide +kernel]; omega
      · rw [txt_join]; exact sok_str hj.2 (by omega)
      · rw [txt_join]; exact hq
  · exact h.elim
)

end
end K41
end

-- part A9
section
local macro_rules | `(tactic| walk_at "dl") => `(tactic| simp only [DL.sRet, DL.dJoined, DL.dJs, DL.dFmt, DL.dFld, DL.dMeth, DL.dMake, DL.sFld, DL.sFldI, DL.sSeq, DL.sSet, DL.sIf, DL.sNext, DL.sNever, DL.sDrop, DL.sAsg, DL.sRetN, DL.dVar, DL.dC, DL.dOp, DL.dTest, DL.dAnd, DL.dOr, DL.dNot, DL.dTru, DL.dAndV, DL.dOrV, DL.dNotV, DL.dIf, DL.aNil, DL.aCons, DL.dTup, DL.dLst, DL.dLstM, DL.dCall, DL.dFrz, DL.dB, DL.dNeg, DL.dSl, DL.oNone, DL.oSome, DL.dChn, DL.gN, DL.gT, DL.setAll,
  DL.ix_l, DL.ix_t, DL.ix_s, DL.ix_p, DL.add_i, DL.add_s, DL.add_l, DL.add_t, DL.mul_i, DL.mul_b, DL.sub_i, DL.fdiv_i, DL.mod_i, DL.pow_i, DL.shl_i, DL.shr_i, DL.and_i, DL.lt_i, DL.le_i, DL.gt_i, DL.ge_i, DL.le_s, DL.in_t, DL.in_l, DL.in_s, DL.len_l, DL.len_t, DL.len_s, DL.len_p, DL.list_l, DL.list_t, DL.list_s, DL.list_p, DL.tuple_l, DL.tuple_t, DL.int_i, DL.int_b, DL.abs_i, DL.max_i, DL.min_i, DL.all_l, DL.any_l, DL.isi_1, DL.isi_n, DL.sl_l, DL.sl_t, DL.sl_s, DL.neg_i, DL.isN_i, DL.notN_i, DL.eq_x, DL.ne_x,
  DL.w_wrote_many, DL.w_wrote_many_b, DL.w_wrote_among, DL.w_wrote_among_b, DL.w_wrote_did, DL.w_wrote_did_b, DL.w_wrote_times, DL.w_wrote_times_b, DL.w_wrote_value, DL.w_wrote_value_b, DL.w_wrote_head, DL.w_wrote_head_b, DL.w_many_wrote, DL.w_many_wrote_b, DL.w_many_among, DL.w_many_among_b, DL.w_many_did, DL.w_many_did_b, DL.w_many_times, DL.w_many_times_b, DL.w_many_value, DL.w_many_value_b, DL.w_many_head, DL.w_many_head_b, DL.w_among_wrote, DL.w_among_wrote_b, DL.w_among_many, DL.w_among_many_b, DL.w_among_did, DL.w_among_did_b, DL.w_among_times, DL.w_among_times_b, DL.w_among_value, DL.w_among_value_b, DL.w_among_head, DL.w_among_head_b, DL.w_did_wrote, DL.w_did_wrote_b, DL.w_did_many, DL.w_did_many_b, DL.w_did_among, DL.w_did_among_b, DL.w_did_times, DL.w_did_times_b, DL.w_did_value, DL.w_did_value_b, DL.w_did_head, DL.w_did_head_b, DL.w_times_wrote, DL.w_times_wrote_b, DL.w_times_many, DL.w_times_many_b, DL.w_times_among, DL.w_times_among_b, DL.w_times_did, DL.w_times_did_b, DL.w_times_value, DL.w_times_value_b, DL.w_times_head, DL.w_times_head_b, DL.w_value_wrote, DL.w_value_wrote_b, DL.w_value_many, DL.w_value_many_b, DL.w_value_among, DL.w_value_among_b, DL.w_value_did, DL.w_value_did_b, DL.w_value_times, DL.w_value_times_b, DL.w_value_head, DL.w_value_head_b, DL.w_head_wrote, DL.w_head_wrote_b, DL.w_head_many, DL.w_head_many_b, DL.w_head_among, DL.w_head_among_b, DL.w_head_did, DL.w_head_did_b, DL.w_head_times, DL.w_head_times_b, DL.w_head_value, DL.w_head_value_b,
  DL.q_ss, DL.q_ii, DL.q_bb, DL.q_nn, DL.q_tt, DL.q_ll, DL.q_si, DL.q_sn, DL.q_st, DL.q_sl, DL.q_is, DL.q_in, DL.q_it, DL.q_il, DL.q_ns, DL.q_ni, DL.q_nt, DL.q_nl, DL.q_ts, DL.q_ti, DL.q_tn, DL.q_tl, DL.q_ls, DL.q_li, DL.q_ln, DL.q_lt, DL.qs_nil, DL.qs_cons, DL.qs_nc, DL.qs_cn, DL.p_t16, DL.p_l16, DL.p_t15, DL.p_l15, DL.p_t14, DL.p_l14, DL.p_t13, DL.p_l13, DL.p_t12, DL.p_l12, DL.p_s, DL.p_i, DL.p_b, DL.p_n, DL.ps_nil, DL.ps_cons, DL.t_b, DL.t_i, DL.t_l, DL.t_t, DL.t_n, DL.n_n, DL.n_i, DL.n_s, DL.n_t, DL.n_l, DL.n_b, DL.f_s, DL.f_i,
  Bool.false_and, Bool.and_false, DL.z0, DL.z1, DL.z2, DL.z3, DL.z4, DL.z5, DL.z6, DL.z12,
  DL.startD, DL.sFrz, DL.sApp, DL.yesD, DL.lcTurn, DL.wipeE, DL.at0, DL.at1, DL.at2, DL.at3, DL.at4, List.map_cons, List.map_nil, List.replicate_succ, List.replicate_zero, List.length_cons, List.length_nil, List.cons_append, List.nil_append, List.set_cons_zero, List.set_cons_succ, List.getElem?_cons_zero, List.getElem?_cons_succ, Option.some.injEq, exists_eq_left, exists_eq_left', exists_eq', exists_eq, true_and, and_true, decide_eq_true_eq, if_true, if_false, Bool.false_eq_true, reduceIte, Nat.reduceAdd, Nat.reduceSub, DL.D.bl.injEq, DL.D.int.injEq, DL.D.str.injEq, DL.D.tup.injEq, DL.D.lst.injEq, DL.D.ptr.injEq, Bool.not_true, Bool.not_false, beq_self_eq_true, List.all_cons, List.all_nil, List.any_cons, List.any_nil, Bool.and_true, Bool.true_and, Bool.or_false, Bool.false_or, Bool.or_true, Bool.true_or, Bool.false_xor, Bool.true_xor, beq_iff_eq, Bool.not_eq_true, Int.reduceEq, Int.reduceBEq, and_self])

namespace K41
open PySem L2 DL
def shelves : List (List Str) := [["a"], ["a", "b"], ["a", "ab"], ["a", "ab", "b"], ["b"]]
theorem set_n3 {a b c d x : D} : ([a, b, c, d] : List D).set 3 x = [a, b, c, x] := rfl
theorem atG {α : Type} (d : α) {l : List α} {i : Int} (h0 : 0 ≤ i) (h1 : i < l.length) : atI l i = some (l.getD i.toNat d) := by
  obtain ⟨x, h2, h3⟩ := atI_in h0 h1
  rw [h2, List.getD_eq_getElem?_getD, h3]
  rfl
def fK (tb : List (List Str)) (k : Str) (i : Nat) : Option D := if k ∈ tb.getD i [] then some (D.int (0 + (i : Nat))) else none
def mkC (sk : List Str) (m : Nat) : List Str := (List.range sk.length).filterMap fun k => if Builtin.bitAnd ((1 + (m : Int)) / 2 ^ k) 1 ≠ 0 then some (sk.getD k ⟨#[]⟩) else none
def allC (sk : List Str) : List (List Str) := (List.range ((1 * 2 ^ (sk.length : Int).toNat - 1 : Int)).toNat).map (mkC sk)
theorem allC_ok : ∀ sk ∈ shelves, allC sk ≠ [] ∧ (allC sk).length ≤ 7 ∧ ∀ c ∈ allC sk, c ≠ [] ∧ c.Sublist sk := by decide +kernel
theorem shelf3 : ∀ sk ∈ shelves, sk.length ≤ 3 := by decide +kernel
theorem shelfN : ∀ sk ∈ shelves, sk ≠ [] := by decide +kernel
instance (sk : List Str) : Decidable (SortedS sk) := by unfold SortedS; infer_instance
instance (k : Str) : Decidable (okKey k) := by unfold okKey; infer_instance
theorem shelf_ok : ∀ sk ∈ shelves, SortedS sk ∧ ∀ k ∈ sk, okKey k := by decide +kernel
theorem sub_keys {sk c : List Str} (hs : sk ∈ shelves) (h : c.Sublist sk) (hn : c ≠ []) : okKeys c := by
  obtain ⟨h1, h2⟩ := shelf_ok sk hs
  have h3 := shelf3 sk hs
  have h4 := h.length_le
  exact ⟨hn, by omega, List.Pairwise.sublist h h1, fun k hk => h2 k (h.subset hk)⟩
def C__law_draw : CT := DL.C_draw
def C__law_next : CT := DL.C_next
def C__law_shelf : CT := fun ds μ Q => match ds with
  | [.ptr dr] => μ dr = some .draw ∧ ∀ s ∈ shelves, Q (eKeys s) μ
  | _ => False
def C__law_commits : CT := fun ds μ Q => match ds with
  | [s] => ∃ sk ∈ shelves, s = eKeys sk ∧ ∀ cs : List (List Str), cs ≠ [] → cs.length ≤ 7 → (∀ c ∈ cs, c ≠ [] ∧ c.Sublist sk) → Q (.lst (cs.map eKeys)) μ
  | _ => False
def eTab (t : List (List Str)) : D := .lst (t.map eKeys)
def C__law_told : CT := fun ds μ Q => match ds with
  | [.ptr dr, s, t, .int m] => μ dr = some .draw ∧ ∃ sk ∈ shelves, ∃ tb : List (List Str), s = eKeys sk ∧ t = eTab tb ∧ m = tb.length ∧ 1 ≤ m ∧ m ≤ 4 ∧ (∀ c ∈ tb, c ≠ [] ∧ c.Sublist sk) ∧ ∀ q, okP q → (∀ k v n, q = .times k v n → n ≤ 18) → Q (ePc q) μ
  | _ => False
def C__law_bent : CT := fun ds μ Q => match ds with
  | [.ptr dr, s, p] => μ dr = some .draw ∧ ∃ sk ∈ shelves, ∃ (q : Pc), s = eKeys sk ∧ p = ePc q ∧ okP q ∧ (∀ k v n, q = .times k v n → n ≤ 18) ∧ ∀ q', okP q' → Q (ePc q') μ
  | _ => False
section
variable {P : Program} {w : World} {K : PySem.W.Frag} {mg : Str → Option Value} {base : Heap}
theorem ok0__law_next (T : Tx K mg) : FnOk P w K mg base CX0 1 T.a__law_next T.d__law_next ["draw", "many"] (spD K DL.C0_next) :=
  DL.Fun.okD (N := ["draw", "many", "found", "cell"]) T.F__law_next sc__law_next (fun cdv A outer s H E hr => 
      (dss_cons (ds_if (dt_cmp op_gtD od_gt (de_ix ix_seq od_ix (dv 0) de_int (fun _ _ => rfl)) de_int (nomark _)) 
      (dss_cons (ds_set 2 sc__law_next.nd (de_op op_mod od_mod (de_T call_int1 cd_int (by rfl) T.b_int (by decide +kernel) (da_cons (de_ix ix_seq od_ix (dv 0) de_int (fun _ _ => rfl)) da_nil)) (dv 1))) 
      (dss_cons (ds_setIx (dv 0) de_int (de_op op_fdiv od_fdiv (de_ix ix_seq od_ix (dv 0) de_int (fun _ _ => rfl)) (dv 1))) 
      (dss_one (ds_ret (dv 2))))) dss_nil) 
      (dss_cons (ds_if (dt_cmp op_ltD od_lt (de_ix ix_seq od_ix (dv 0) de_int (fun _ _ => rfl)) (de_B L2.call_len cd_len (by rfl) T.b_len (by decide +kernel) (da_cons (de_ix ix_seq od_ix (dv 0) de_int (fun _ _ => rfl)) da_nil)) (nomark _)) 
      (dss_cons (ds_set 3 sc__law_next.nd (de_B call_abs cd_abs (by rfl) T.b_abs (by decide +kernel) (da_cons (de_ix ix_seq od_ix (de_ix ix_seq od_ix (dv 0) de_int (fun _ _ => rfl)) (de_ix ix_seq od_ix (dv 0) de_int (fun _ _ => rfl)) (fun _ _ => rfl)) da_nil))) 
      (dss_cons (ds_setIx (dv 0) de_int (de_op op_addD od_add (de_ix ix_seq od_ix (dv 0) de_int (fun _ _ => rfl)) de_int)) 
      (dss_cons (ds_if (dt_cmp op_geD od_ge (dv 3) (de_op op_pow od_pow de_int de_int) (nomark _)) 
      (dss_cons (ds_setIx (dv 0) de_int (de_op op_fdiv od_fdiv (dv 3) (dv 1))) 
      (dss_one (ds_ret (de_op op_mod od_mod (de_T call_int1 cd_int (by rfl) T.b_int (by decide +kernel) (da_cons (dv 3) da_nil)) (dv 1))))) dss_nil) 
      (dss_one (ds_setIx (dv 0) de_int (de_op op_mod od_mod (de_T call_int1 cd_int (by rfl) T.b_int (by decide +kernel) (da_cons (de_op op_addD od_add (de_op op_addD od_add (de_op op_mulD od_mul (de_ix ix_seq od_ix (dv 0) de_int (fun _ _ => rfl)) de_int) (dv 3)) de_int) da_nil)) de_int)))))) 
      (dss_one (ds_setIx (dv 0) de_int (de_op op_mod od_mod (de_T call_int1 cd_int (by rfl) T.b_int (by decide +kernel) (da_cons (de_op op_addD od_add (de_op op_mulD od_mul (de_ix ix_seq od_ix (dv 0) de_int (fun _ _ => rfl)) de_int) de_int) da_nil)) de_int)))) 
      (dss_one (ds_ret (de_op op_mod od_mod (de_op op_fdiv od_fdiv (de_T call_int1 cd_int (by rfl) T.b_int (by decide +kernel) (da_cons (de_op op_mod od_mod (de_op op_mulD od_mul (de_ix ix_seq od_ix (dv 0) de_int (fun _ _ => rfl)) de_int) de_int) da_nil)) de_int) (dv 1)))))))
    (by intro ds μ Q h; unfold DL.C0_next at h; split at h <;> first | rfl | exact h.elim) (by
  intro ds μ Q h
  unfold C0_next at h
  split at h
  · rename_i dr many
    obtain ⟨ns, i, j, k, hd, hb, h0, h1, hq⟩ := h
    unfold bufD at hd hq
    have hm : ∀ x : Int, 0 ≤ x % many ∧ x % many < many := fun x => ⟨Int.emod_nonneg _ (by omega), Int.emod_lt_of_pos _ h0⟩
    have hm3 : ∀ x : Int, 0 ≤ x % 2147483647 ∧ x % 2147483647 < 2147483647 := fun x => ⟨Int.emod_nonneg _ (by omega), Int.emod_lt_of_pos _ (by omega)⟩
    obtain ⟨b1, b2, b3, b4, b5⟩ := hb
    (walk_at "dl")
    simp only [buf_ix hd]
    (walk_at "dl")
    by_cases hj : 0 < j
    · simp only [hj, if_true]
      refine ⟨h0, ?_⟩
      unfold sSetIx
      (walk_at "dl")
      simp only [buf_ix hd]
      (walk_at "dl")
      refine ⟨⟨h0, h1⟩, dr, _, _, 2, rfl, rfl, hd, rfl, ?_⟩
      (walk_at "dl")
      exact hq _ i (j / many) k (hm _).1 (hm _).2 ⟨b1, b2, Int.ediv_nonneg b3 (by omega), b4, b5⟩
    · simp only [hj, if_false]
      by_cases hi : i < ns.length
      · have hi2 : i < ((ns.map D.int).length : Int) := by rw [List.length_map]; exact hi
        simp only [hi2, decide_true, if_true]
        obtain ⟨x, hx, _⟩ := atI_in b2 hi
        refine ⟨D.int x, by rw [atI_map, hx]; rfl, ?_⟩
        unfold sSetIx
        (walk_at "dl")
        simp only [buf_ix hd]
        (walk_at "dl")
        refine ⟨dr, _, _, 1, rfl, rfl, hd, rfl, ?_⟩
        (walk_at "dl")
        refine ⟨⟨by omega, by omega, by decide⟩, ?_⟩
        by_cases hc : (10 : Int) ^ (18 : Int).toNat ≤ absI x
        · simp only [hc, decide_true, if_true]
          refine ⟨⟨h0, h1⟩, dr, _, _, 2, rfl, rfl, Mu.put_same, rfl, ?_⟩
          rw [Mu.put_put]
          (walk_at "dl")
          refine ⟨h0, ?_⟩
          exact hq _ (i + 1) (absI x / many) k (hm _).1 (hm _).2 ⟨b1, by omega, Int.ediv_nonneg (abs_nn x) (by omega), b4, b5⟩
        · simp only [hc, decide_false, Bool.false_eq_true, if_false]
          simp only [buf_ix Mu.put_same]
          (walk_at "dl")
          refine ⟨Or.inr ⟨by omega, by omega⟩, by omega, dr, _, _, 3, rfl, rfl, Mu.put_same, rfl, ?_⟩
          rw [Mu.put_put]
          (walk_at "dl")
          simp only [buf_ix Mu.put_same]
          (walk_at "dl")
          have hk := hm3 (k * 48271 + absI x + 11)
          refine ⟨Or.inr ⟨by omega, by omega⟩, by omega, ⟨by omega, by omega⟩, h0, ?_⟩
          exact hq _ (i + 1) j _ (hm _).1 (hm _).2 ⟨b1, by omega, b3, hk.1, hk.2⟩
      · have hi2 : ¬ i < ((ns.map D.int).length : Int) := by rw [List.length_map]; exact hi
        simp only [hi2, decide_false, Bool.false_eq_true, if_false]
        unfold sSetIx
        (walk_at "dl")
        simp only [buf_ix hd]
        (walk_at "dl")
        refine ⟨Or.inr ⟨by omega, by omega⟩, by omega, dr, _, _, 3, rfl, rfl, hd, rfl, ?_⟩
        (walk_at "dl")
        simp only [buf_ix Mu.put_same]
        (walk_at "dl")
        have hk := hm3 (k * 48271 + 12345)
        refine ⟨Or.inr ⟨by omega, by omega⟩, by omega, ⟨by omega, by omega⟩, h0, ?_⟩
        exact hq _ i j _ (hm _).1 (hm _).2 ⟨b1, b2, b3, hk.1, hk.2⟩
  · exact h.elim
)


theorem ok0__law_draw (T : Tx K mg) : FnOk P w K mg base CX0 1 T.a__law_draw T.d__law_draw ["script"] (spD K DL.C0_draw) :=
  DL.Fun.okD (N := ["script"]) T.F__law_draw sc__law_draw (fun cdv A outer s H E hr => 
      (dss_one (ds_ret (de_lstM (da_cons (de_T call_list_of cd_list (by rfl) T.b_list (by decide +kernel) (da_cons (dv 0) da_nil)) (da_cons de_int (da_cons de_int (da_cons de_int da_nil))))))))
    (by intro ds μ Q h; unfold DL.C0_draw at h; split at h <;> first | rfl | exact h.elim) (by
  intro ds μ Q h
  unfold C0_draw at h
  split at h
  · obtain ⟨h1, hq⟩ := h
    unfold bufD at hq
    (walk_at "dl")
    refine ⟨sz_small (by omega), ?_⟩
    exact hq
  · exact h.elim
)


theorem ok__law_next (T : Tx K mg) : FnOk P w K mg base CX0 1 T.a__law_next T.d__law_next ["draw", "many"] (spD K C__law_next) := (ok0__law_next T).imp fun _ _ _ _ h => next_imp h
theorem ok__law_draw (T : Tx K mg) : FnOk P w K mg base CX0 1 T.a__law_draw T.d__law_draw ["script"] (spD K C__law_draw) := (ok0__law_draw T).imp fun _ _ _ _ h => draw_imp h
theorem ok__law_commits (T : Tx K mg) : FnOk P w K mg base CX0 1 T.a__law_commits T.d__law_commits ["shelf"] (spD K C__law_commits) :=
  DL.Fun.okD (N := ["shelf", "found", "mark", "k"]) T.F__law_commits sc__law_commits (fun cdv A outer s H E hr => 
      (dss_cons (ds_set 1 sc__law_commits.nd (de_lstM da_nil)) 
      (dss_cons (ds_for PassesOwn.never rfl (di_rg2 (by rfl) T.b_range (da_cons de_int (da_cons (de_op op_shl od_shl de_int (de_B L2.call_len cd_len (by rfl) T.b_len (by decide +kernel) (da_cons (dv 0) da_nil))) da_nil))) (dg_name 2 sc__law_commits.nd) 
      (dss_one (ds_app (dv 1) (de_T call_tuple_of cd_tuple (by rfl) T.b_tuple (by decide +kernel) (da_cons (de_lc [("k", 3)] rfl sc__law_commits.nd (di_rg1 (by rfl) T.b_range (da_cons (de_B L2.call_len cd_len (by rfl) T.b_len (by decide +kernel) (da_cons (dv 0) da_nil)) da_nil)) (blkOk_by (sc := (defScope s__law_commits)) (own := [("k", 3)]) (N := ["shelf", "found", "mark", "k"]) (by decide +kernel)) (fun _ _ _ _ _ => (dg_name 3 sc__law_commits.nd)) (fun _ _ _ _ _ => dts_one (dt_tru (de_op op_and od_and (de_op op_shr od_shr (dv 2) (dv 3)) de_int))) (fun _ _ _ _ _ => (de_ix ix_seq od_ix (dv 0) (dv 3) (fun _ _ => rfl)))) da_nil))))) 
      (dss_frz 1 (dss_one (ds_ret (dv 1)))))))
    (by intro ds μ Q h; unfold C__law_commits at h; split at h <;> first | rfl | exact h.elim) (by
  intro ds μ Q h
  unfold C__law_commits at h
  split at h
  · obtain ⟨sk, hs, rfl, hq⟩ := h
    have hl := shelf3 sk hs
    (walk_at "dl")
    intro p hp
    refine for_map (fun i : Nat => D.int (1 + (i : Nat))) (List.range ((1 * 2 ^ (sk.length : Int).toNat - 1 : Int)).toNat) (fun pre ρ' μ' => (∃ a b, ρ' = [some (eKeys sk), some (.ptr p), a, b]) ∧ μ' = μ.put p (.lst ((pre.map (mkC sk)).map eKeys))) (rg2 ⟨by omega, by omega⟩ ?_ fun R h => ?_) ⟨⟨_, _, rfl⟩, rfl⟩ (fun pre m post ρ' μ' e hI => ?_) fun ρ' μ' hI => ?_
    · have h4 : sk.length = 0 ∨ sk.length = 1 ∨ sk.length = 2 ∨ sk.length = 3 := by omega
      rcases h4 with h | h | h | h <;> rw [h] <;> exact ⟨by decide, by decide⟩
    · unfold eKeys
      (walk_at "dl")
      simp only [List.length_map]
      exact ⟨⟨by omega, by omega, by decide⟩, h⟩
    · obtain ⟨⟨a, b, rfl⟩, rfl⟩ := hI
      (walk_at "dl")
      refine ⟨p, _, rfl, Mu.put_same, ?_⟩
      have hpre : pre.length ≤ 7 := by
        have h1 := congrArg List.length e
        rw [List.length_range, List.length_append] at h1
        have h4 : sk.length = 0 ∨ sk.length = 1 ∨ sk.length = 2 ∨ sk.length = 3 := by omega
        have h5 : (1 * 2 ^ (sk.length : Int).toNat - 1 : Int).toNat ≤ 7 := by rcases h4 with h | h | h | h <;> rw [h] <;> decide
        omega
      refine lc_fmapT (List.range sk.length) (fun k : Nat => D.int (0 + (k : Nat))) (fun k => if Builtin.bitAnd ((1 + (m : Int)) / 2 ^ k) 1 ≠ 0 then some (D.str (sk.getD k ⟨#[]⟩)) else none) (fun R h => ?_) (fun k hk q acc hq' N hN => ?_) ?_
      · refine rg1 (i := sk.length) ⟨by omega, by omega⟩ (fun R h => ?_) R (by rw [Int.toNat_natCast]; exact h)
        unfold eKeys
        (walk_at "dl")
        rw [List.length_map]
        exact h
      · have hk' := List.mem_range.mp hk
        (walk_at "dl")
        refine ⟨by omega, ?_⟩
        have e0 : (0 + (k : Int)).toNat = k := by omega
        rw [e0]
        by_cases hb : Builtin.bitAnd ((1 + (m : Int)) / 2 ^ k) 1 = 0
        · rw [hb]
          exact hN _ (by simp [hb])
        · have h1 : (Builtin.bitAnd ((1 + (m : Int)) / 2 ^ k) 1 != 0) = true := by simp [hb]
          rw [if_pos h1]
          unfold eKeys
          (walk_at "dl")
          rw [atI_map, atG ⟨#[]⟩ (by omega) (by omega), e0]
          exact ⟨_, rfl, hN _ (by rw [if_pos hb])⟩
      · (walk_at "dl")
        refine ⟨_, Mu.put_same, sz_small' (by simp only [List.length_map]; omega), ⟨_, _, rfl⟩, ?_⟩
        rw [Mu.put_put]
        congr 2
        rw [List.map_append, List.map_append]
        congr 1
        have e5 : ∀ l : List Nat, (l.filterMap fun k => if Builtin.bitAnd ((1 + (m : Int)) / 2 ^ k) 1 ≠ 0 then some (D.str (sk.getD k ⟨#[]⟩)) else none) = (l.filterMap fun k => if Builtin.bitAnd ((1 + (m : Int)) / 2 ^ k) 1 ≠ 0 then some (sk.getD k ⟨#[]⟩) else none).map D.str := by
          intro l
          rw [List.map_filterMap]
          congr 1
          funext k
          split <;> rfl
        rw [e5]
        rfl
    · obtain ⟨⟨a, b, rfl⟩, rfl⟩ := hI
      (walk_at "dl")
      refine ⟨p, _, rfl, Mu.put_same, ?_⟩
      rw [Mu.put_del hp]
      obtain ⟨c1, c2, c3⟩ := allC_ok sk hs
      exact hq (allC sk) c1 c2 c3
  · exact h.elim
)


theorem ok__law_shelf (T : Tx K mg) : FnOk P w K mg base CX0 2 T.a__law_shelf T.d__law_shelf ["draw"] (spD K C__law_shelf) :=
  DL.Fun.okD (N := ["draw"]) T.F__law_shelf sc__law_shelf (fun cdv A outer s H E hr => 
      (dss_one (ds_ret (de_ix ix_seq od_ix (de_lst (da_cons (de_tup (da_cons (de_str) da_nil)) (da_cons (de_tup (da_cons (de_str) (da_cons (de_str) da_nil))) (da_cons (de_tup (da_cons (de_str) (da_cons (de_str) da_nil))) (da_cons (de_tup (da_cons (de_str) (da_cons (de_str) (da_cons (de_str) da_nil)))) (da_cons (de_tup (da_cons (de_str) da_nil)) da_nil)))))) (de_call (ok__law_next T) (hr.mono (by decide)) (by rfl) T.m__law_next T.k__law_next T.v__law_next pass0 (da_cons (dv 0) (da_cons de_int da_nil))) (fun _ _ => rfl)))))
    (by intro ds μ Q h; unfold C__law_shelf at h; split at h <;> first | rfl | exact h.elim) (by
  intro ds μ Q h
  unfold C__law_shelf at h
  split at h
  · obtain ⟨hd, hq⟩ := h
    (walk_at "dl")
    refine ⟨hd, by decide, by decide, fun i i0 i1 => ?_⟩
    (walk_at "dl")
    show ∃ d, atI (shelves.map eKeys) i = some d ∧ Q d μ
    have hlen : (shelves.length : Int) = 5 := rfl
    rw [atI_map, atG [] i0 (by omega)]
    refine ⟨_, rfl, hq _ ?_⟩
    rw [List.getD_eq_getElem?_getD, List.getElem?_eq_getElem (by omega)]
    exact List.getElem_mem _
  · exact h.elim
)



end
end K41
end

-- part B0
section
local macro_rules | `(tactic| walk_at "dl") => `(tactic| simp only [DL.sRet, DL.dJoined, DL.dJs, DL.dFmt, DL.dFld, DL.dMeth, DL.dMake, DL.sFld, DL.sFldI, DL.sSeq, DL.sSet, DL.sIf, DL.sNext, DL.sNever, DL.sDrop, DL.sAsg, DL.sRetN, DL.dVar, DL.dC, DL.dOp, DL.dTest, DL.dAnd, DL.dOr, DL.dNot, DL.dTru, DL.dAndV, DL.dOrV, DL.dNotV, DL.dIf, DL.aNil, DL.aCons, DL.dTup, DL.dLst, DL.dLstM, DL.dCall, DL.dFrz, DL.dB, DL.dNeg, DL.dSl, DL.oNone, DL.oSome, DL.dChn, DL.gN, DL.gT, DL.setAll,
  DL.ix_l, DL.ix_t, DL.ix_s, DL.ix_p, DL.add_i, DL.add_s, DL.add_l, DL.add_t, DL.mul_i, DL.mul_b, DL.sub_i, DL.fdiv_i, DL.mod_i, DL.pow_i, DL.shl_i, DL.shr_i, DL.and_i, DL.lt_i, DL.le_i, DL.gt_i, DL.ge_i, DL.le_s, DL.in_t, DL.in_l, DL.in_s, DL.len_l, DL.len_t, DL.len_s, DL.len_p, DL.list_l, DL.list_t, DL.list_s, DL.list_p, DL.tuple_l, DL.tuple_t, DL.int_i, DL.int_b, DL.abs_i, DL.max_i, DL.min_i, DL.all_l, DL.any_l, DL.isi_1, DL.isi_n, DL.sl_l, DL.sl_t, DL.sl_s, DL.neg_i, DL.isN_i, DL.notN_i, DL.eq_x, DL.ne_x,
  DL.w_wrote_many, DL.w_wrote_many_b, DL.w_wrote_among, DL.w_wrote_among_b, DL.w_wrote_did, DL.w_wrote_did_b, DL.w_wrote_times, DL.w_wrote_times_b, DL.w_wrote_value, DL.w_wrote_value_b, DL.w_wrote_head, DL.w_wrote_head_b, DL.w_many_wrote, DL.w_many_wrote_b, DL.w_many_among, DL.w_many_among_b, DL.w_many_did, DL.w_many_did_b, DL.w_many_times, DL.w_many_times_b, DL.w_many_value, DL.w_many_value_b, DL.w_many_head, DL.w_many_head_b, DL.w_among_wrote, DL.w_among_wrote_b, DL.w_among_many, DL.w_among_many_b, DL.w_among_did, DL.w_among_did_b, DL.w_among_times, DL.w_among_times_b, DL.w_among_value, DL.w_among_value_b, DL.w_among_head, DL.w_among_head_b, DL.w_did_wrote, DL.w_did_wrote_b, DL.w_did_many, DL.w_did_many_b, DL.w_did_among, DL.w_did_among_b, DL.w_did_times, DL.w_did_times_b, DL.w_did_value, DL.w_did_value_b, DL.w_did_head, DL.w_did_head_b, DL.w_times_wrote, DL.w_times_wrote_b, DL.w_times_many, DL.w_times_many_b, DL.w_times_among, DL.w_times_among_b, DL.w_times_did, DL.w_times_did_b, DL.w_times_value, DL.w_times_value_b, DL.w_times_head, DL.w_times_head_b, DL.w_value_wrote, DL.w_value_wrote_b, DL.w_value_many, DL.w_value_many_b, DL.w_value_among, DL.w_value_among_b, DL.w_value_did, DL.w_value_did_b, DL.w_value_times, DL.w_value_times_b, DL.w_value_head, DL.w_value_head_b, DL.w_head_wrote, DL.w_head_wrote_b, DL.w_head_many, DL.w_head_many_b, DL.w_head_among, DL.w_head_among_b, DL.w_head_did, DL.w_head_did_b, DL.w_head_times, DL.w_head_times_b, DL.w_head_value, DL.w_head_value_b,
  DL.q_ss, DL.q_ii, DL.q_bb, DL.q_nn, DL.q_tt, DL.q_ll, DL.q_si, DL.q_sn, DL.q_st, DL.q_sl, DL.q_is, DL.q_in, DL.q_it, DL.q_il, DL.q_ns, DL.q_ni, DL.q_nt, DL.q_nl, DL.q_ts, DL.q_ti, DL.q_tn, DL.q_tl, DL.q_ls, DL.q_li, DL.q_ln, DL.q_lt, DL.qs_nil, DL.qs_cons, DL.qs_nc, DL.qs_cn, DL.p_t16, DL.p_l16, DL.p_t15, DL.p_l15, DL.p_t14, DL.p_l14, DL.p_t13, DL.p_l13, DL.p_t12, DL.p_l12, DL.p_s, DL.p_i, DL.p_b, DL.p_n, DL.ps_nil, DL.ps_cons, DL.t_b, DL.t_i, DL.t_l, DL.t_t, DL.t_n, DL.n_n, DL.n_i, DL.n_s, DL.n_t, DL.n_l, DL.n_b, DL.f_s, DL.f_i,
  Bool.false_and, Bool.and_false, DL.z0, DL.z1, DL.z2, DL.z3, DL.z4, DL.z5, DL.z6, DL.z12,
  DL.startD, DL.sFrz, DL.sApp, DL.yesD, DL.lcTurn, DL.wipeE, DL.at0, DL.at1, DL.at2, DL.at3, DL.at4, List.map_cons, List.map_nil, List.replicate_succ, List.replicate_zero, List.length_cons, List.length_nil, List.cons_append, List.nil_append, List.set_cons_zero, List.set_cons_succ, List.getElem?_cons_zero, List.getElem?_cons_succ, Option.some.injEq, exists_eq_left, exists_eq_left', exists_eq', exists_eq, true_and, and_true, decide_eq_true_eq, if_true, if_false, Bool.false_eq_true, reduceIte, Nat.reduceAdd, Nat.reduceSub, DL.D.bl.injEq, DL.D.int.injEq, DL.D.str.injEq, DL.D.tup.injEq, DL.D.lst.injEq, DL.D.ptr.injEq, Bool.not_true, Bool.not_false, beq_self_eq_true, List.all_cons, List.all_nil, List.any_cons, List.any_nil, Bool.and_true, Bool.true_and, Bool.or_false, Bool.false_or, Bool.or_true, Bool.true_or, Bool.false_xor, Bool.true_xor, beq_iff_eq, Bool.not_eq_true, Int.reduceEq, Int.reduceBEq, and_self])

namespace K41
open PySem L2 DL
theorem zz_ok : okKeys ["zz"] := ⟨by simp, by decide, by decide +kernel, by decide +kernel⟩
section
variable {P : Program} {w : World} {K : PySem.W.Frag} {mg : Str → Option Value} {base : Heap}
theorem ok__law_told (T : Tx K mg) : FnOk P w K mg base CX0 2 T.a__law_told T.d__law_told ["draw", "shelf", "table", "most"] (spD K C__law_told) :=
  DL.Fun.okD (N := ["draw", "shelf", "table", "most", "form", "key", "version", "commit", "more", "other", "k"]) T.F__law_told sc__law_told (fun cdv A outer s H E hr => 
      (dss_cons (ds_set 4 sc__law_told.nd (de_call (ok__law_next T) (hr.mono (by decide)) (by rfl) T.m__law_next T.k__law_next T.v__law_next pass0 (da_cons (dv 0) (da_cons de_int da_nil)))) 
      (dss_cons (ds_set 5 sc__law_told.nd (de_ix ix_seq od_ix (dv 1) (de_call (ok__law_next T) (hr.mono (by decide)) (by rfl) T.m__law_next T.k__law_next T.v__law_next pass0 (da_cons (dv 0) (da_cons (de_B L2.call_len cd_len (by rfl) T.b_len (by decide +kernel) (da_cons (dv 1) da_nil)) da_nil))) (fun _ _ => rfl))) 
      (dss_cons (ds_if (dt_cmp op_gtD od_gt (dv 4) de_int (nomark _)) 
      (dss_one (ds_ret (de_tup (da_cons (de_str) (da_cons (dv 5) (da_cons (de_op op_addD od_add de_int (de_call (ok__law_next T) (hr.mono (by decide)) (by rfl) T.m__law_next T.k__law_next T.v__law_next pass0 (da_cons (dv 0) (da_cons de_int da_nil)))) (da_cons (de_op op_sub od_sub (de_call (ok__law_next T) (hr.mono (by decide)) (by rfl) T.m__law_next T.k__law_next T.v__law_next pass0 (da_cons (dv 0) (da_cons de_int da_nil))) de_int) da_nil))))))) dss_nil) 
      (dss_cons (ds_set 6 sc__law_told.nd (de_op op_addD od_add de_int (de_call (ok__law_next T) (hr.mono (by decide)) (by rfl) T.m__law_next T.k__law_next T.v__law_next pass0 (da_cons (dv 0) (da_cons (dv 3) da_nil))))) 
      (dss_cons (ds_set 7 sc__law_told.nd (de_ix ix_seq od_ix (dv 2) (de_op op_sub od_sub (dv 6) de_int) (fun _ _ => rfl))) 
      (dss_cons (ds_if (dt_cmp (op_eqD hr.units) od_eq (dv 4) de_int (nomark _)) 
      (dss_one (ds_ret (de_tup (da_cons (de_str) (da_cons (dv 6) (da_cons (dv 7) da_nil)))))) dss_nil) 
      (dss_cons (ds_if (dt_cmp (op_eqD hr.units) od_eq (dv 4) de_int (nomark _)) 
      (dss_one (ds_ret (de_tup (da_cons (de_str) (da_cons (dv 6) (da_cons (de_B L2.call_len cd_len (by rfl) T.b_len (by decide +kernel) (da_cons (dv 7) da_nil)) da_nil)))))) dss_nil) 
      (dss_cons (ds_if (dt_cmp (op_eqD hr.units) od_eq (dv 4) de_int (nomark _)) 
      (dss_cons (ds_setLc 8 [("other", 9)] rfl sc__law_told.nd (sw_true rfl rfl rfl (by decide +kernel)) (di_seq (dv 1)) (blkOk_by (sc := (defScope s__law_told)) (own := [("other", 9)]) (N := ["draw", "shelf", "table", "most", "form", "key", "version", "commit", "more", "other", "k"]) (by decide +kernel)) (fun _ _ _ _ _ => (dg_name 9 sc__law_told.nd)) (fun _ _ _ _ _ => dts_one (dw_pt (dw_or (dt_cmp op_inD2 od_in (dv 9) (dv 7) (by rfl)) (dw_or1 (dt_tru (de_call (ok__law_next T) (hr.mono (by decide)) (by rfl) T.m__law_next T.k__law_next T.v__law_next pass0 (da_cons (dv 0) (da_cons de_int da_nil)))))))) (fun _ _ _ _ _ => (dv 9))) 
      (dss_one (ds_ret (de_tup (da_cons (de_str) (da_cons (dv 6) (da_cons (de_T call_tuple_of cd_tuple (by rfl) T.b_tuple (by decide +kernel) (da_cons (dv 8) da_nil)) da_nil))))))) dss_nil) 
      (dss_cons (ds_if (dt_cmp (op_eqD hr.units) od_eq (dv 4) de_int (nomark _)) 
      (dss_one (ds_ret (de_tup (da_cons (de_str) (da_cons (dv 6) (da_cons (de_ix ix_seq od_ix (dv 7) (de_call (ok__law_next T) (hr.mono (by decide)) (by rfl) T.m__law_next T.k__law_next T.v__law_next pass0 (da_cons (dv 0) (da_cons (de_B L2.call_len cd_len (by rfl) T.b_len (by decide +kernel) (da_cons (dv 7) da_nil)) da_nil))) (fun _ _ => rfl)) da_nil)))))) dss_nil) 
      (dss_cons (ds_if (dw_pt (dw_and (dt_cmp (op_eqD hr.units) od_eq (dv 4) de_int (nomark _)) (dw_and1 (dt_cmp (op_eqD hr.units) od_eq (de_call (ok__law_next T) (hr.mono (by decide)) (by rfl) T.m__law_next T.k__law_next T.v__law_next pass0 (da_cons (dv 0) (da_cons de_int da_nil))) de_int (nomark _))))) 
      (dss_one (ds_ret (de_tup (da_cons (de_str) (da_cons (dv 6) da_nil))))) dss_nil) 
      (dss_one (ds_ret (de_tup (da_cons (de_str) (da_cons (dv 5) (da_cons (dv 6) (da_cons (de_B L2.call_len cd_len (by rfl) T.b_len (by decide +kernel) (da_cons (de_lc [("k", 10)] rfl sc__law_told.nd (di_rg1 (by rfl) T.b_range (da_cons (dv 6) da_nil)) (blkOk_by (sc := (defScope s__law_told)) (own := [("k", 10)]) (N := ["draw", "shelf", "table", "most", "form", "key", "version", "commit", "more", "other", "k"]) (by decide +kernel)) (fun _ _ _ _ _ => (dg_name 10 sc__law_told.nd)) (fun _ _ _ _ _ => dts_one (dt_cmp op_inD2 od_in (dv 5) (de_ix ix_seq od_ix (dv 2) (dv 10) (fun _ _ => rfl)) (by rfl))) (fun _ _ _ _ _ => (dv 10))) da_nil)) da_nil))))))))))))))))))
    (by intro ds μ Q h; unfold C__law_told at h; split at h <;> first | rfl | exact h.elim) (by
  intro ds μ Q h
  unfold C__law_told at h
  split at h
  · rename_i ds' dr s t m
    obtain ⟨hd, sk, hs, tb, rfl, rfl, hm, h1, h4, hc, hq⟩ := h
    have hl := shelf3 sk hs
    have hn : 0 < sk.length := List.length_pos_iff.mpr (shelfN sk hs)
    (walk_at "dl")
    refine ⟨hd, by decide, by decide, fun f f0 f1 => ?_⟩
    unfold eKeys
    (walk_at "dl")
    refine ⟨hd, by rw [List.length_map]; omega, by rw [List.length_map]; omega, fun i i0 i1 => ?_⟩
    rw [List.length_map] at i1
    (walk_at "dl")
    rw [atI_map, atG ⟨#[]⟩ i0 (by omega)]
    refine ⟨_, rfl, ?_⟩
    have hkey : okKey (sk.getD i.toNat ⟨#[]⟩) := (shelf_ok sk hs).2 _ (by rw [List.getD_eq_getElem?_getD, List.getElem?_eq_getElem (by omega)]; exact List.getElem_mem _)
    generalize sk.getD i.toNat ⟨#[]⟩ = key at hkey
    by_cases c5 : 5 < f
    · rw [if_pos c5]
      refine ⟨hd, by decide, by decide, fun a a0 a1 => ?_⟩
      (walk_at "dl")
      refine ⟨hd, by decide, by decide, fun b b0 b1 => ?_⟩
      (walk_at "dl")
      exact hq (.value key (1 + a) (b - 1)) ⟨⟨by omega, by omega⟩, hkey, by omega, by omega⟩ (fun _ _ _ e => by cases e)
    · rw [if_neg c5]
      refine ⟨hd, by omega, by omega, fun a a0 a1 => ?_⟩
      unfold eTab
      (walk_at "dl")
      rw [atI_map, atG [] (by omega) (by omega)]
      refine ⟨_, rfl, ?_⟩
      have hcm : tb.getD (1 + a - 1).toNat [] ∈ tb := by
        rw [List.getD_eq_getElem?_getD, List.getElem?_eq_getElem (by omega)]
        exact List.getElem_mem _
      have hcc := hc _ hcm
      generalize tb.getD (1 + a - 1).toNat [] = cm at hcm hcc
      obtain ⟨n1, n2⟩ := hcc
      have n3 := n2.length_le
      have n4 := shelf3 sk hs
      have okc := sub_keys hs n2 n1
      have n0 : 0 < cm.length := List.length_pos_iff.mpr n1
      have ov : 1 ≤ 1 + a ∧ 1 + a ≤ 20 := by omega
      unfold eKeys
      (walk_at "dl")
      by_cases e0 : f = 0
      · rw [if_pos e0]
        exact hq (.wrote (1 + a) cm) ⟨ov, okc⟩ (fun _ _ _ e => by cases e)
      · rw [if_neg e0]
        by_cases e1 : f = 1
        · rw [if_pos e1]
          rw [List.length_map]
          exact hq (.many (1 + a) cm.length) ⟨ov, by omega, by omega⟩ (fun _ _ _ e => by cases e)
        · rw [if_neg e1]
          by_cases e2 : f = 2
          · rw [if_pos e2]
            refine lc_byT sk D.str (fun k r => r = some (D.str k) ∨ (r = none ∧ k ∉ cm)) (seq_t fun R h => ?_) (fun k hk p acc hp N hN => ?_) fun rs hrs => ?_
            · (walk_at "dl")
              exact h
            · (walk_at "dl")
              refine ⟨flat_strs cm, ?_⟩
              rw [any_str]
              by_cases hkc : k ∈ cm
              · simp only [hkc, decide_true, if_true]
                exact hN _ (Or.inl rfl)
              · simp only [hkc, decide_false, Bool.false_eq_true, if_false]
                refine ⟨by rw [Mu.put_ne (Mu.ne_of hd hp)]; exact hd, by decide, by decide, fun x x0 x1 => ?_⟩
                (walk_at "dl")
                by_cases hx : x = 0
                · subst hx
                  exact hN _ (Or.inr ⟨rfl, hkc⟩)
                · rw [if_pos (by simp [hx])]
                  exact hN _ (Or.inl rfl)
            · (walk_at "dl")
              have hk : ∀ (l : List Str) (rs : List (Option D)), All2 (fun k r => r = some (D.str k) ∨ (r = none ∧ k ∉ cm)) l rs → ∃ ks : List Str, rs.filterMap id = ks.map D.str ∧ ks.Sublist l ∧ ∀ k ∈ cm, k ∈ l → k ∈ ks := by
                intro l rs h
                induction h with
                | nil => exact ⟨[], rfl, List.Sublist.refl _, fun _ _ h => h⟩
                | @cons k r l rs h1 h2 ih =>
                  obtain ⟨ks, e, e2, e3⟩ := ih
                  rcases h1 with rfl | ⟨rfl, hnk⟩
                  · refine ⟨k :: ks, by simp [e], e2.cons_cons k, fun j hj hjl => ?_⟩
                    rcases List.mem_cons.mp hjl with h | h
                    · simp [h]
                    · simp [e3 j hj h]
                  · refine ⟨ks, by simp [e], e2.cons k, fun j hj hjl => ?_⟩
                    rcases List.mem_cons.mp hjl with h | h
                    · subst h; exact absurd hj hnk
                    · exact e3 j hj h
              obtain ⟨ks, e, es, em⟩ := hk _ _ hrs
              rw [e]
              have hks : ks ≠ [] := by
                obtain ⟨c0, hc0⟩ := List.exists_mem_of_ne_nil cm n1
                have := em c0 hc0 (n2.subset hc0)
                intro h0; rw [h0] at this; cases this
              exact hq (.among (1 + a) ks) ⟨ov, sub_keys hs es hks⟩ (fun _ _ _ e => by cases e)
          · rw [if_neg e2]
            by_cases e3 : f = 3
            · rw [if_pos e3]
              refine ⟨hd, by rw [List.length_map]; omega, by rw [List.length_map]; omega, fun b b0 b1 => ?_⟩
              rw [List.length_map] at b1
              (walk_at "dl")
              rw [atI_map, atG ⟨#[]⟩ b0 (by omega)]
              refine ⟨_, rfl, ?_⟩
              exact hq (.did (1 + a) _) ⟨ov, okc.2.2.2 _ (by rw [List.getD_eq_getElem?_getD, List.getElem?_eq_getElem (by omega)]; exact List.getElem_mem _)⟩ (fun _ _ _ e => by cases e)
            · rw [if_neg e3]
              by_cases e4 : f = 4
              · rw [if_pos e4]
                refine ⟨hd, by decide, by decide, fun x x0 x1 => ⟨p_i, ?_⟩⟩
                (walk_at "dl")
                by_cases hx : x = 0
                · rw [if_pos hx]
                  exact hq (.head (1 + a)) ⟨by omega, by omega⟩ (fun _ _ _ e => by cases e)
                · rw [if_neg hx]
                  have hcnt : ((List.range (1 + a).toNat).filterMap (fK tb key)).length ≤ 4 := Nat.le_trans (List.length_filterMap_le _ _) (by rw [List.length_range]; omega)
                  refine lc_fmapT (List.range (1 + a).toNat) (fun i => D.int (0 + (i : Nat))) (fK tb key) (rg1 ⟨by omega, by omega⟩ fun R h => ?_) (fun i hi p acc hp N hN => ?_) ?_
                  · (walk_at "dl")
                    exact h
                  · have hi' := List.mem_range.mp hi
                    (walk_at "dl")
                    rw [atI_map, atG [] (by omega) (by omega)]
                    have e0 : (0 + (i : Int)).toNat = i := by omega
                    rw [e0]
                    refine ⟨_, rfl, ?_⟩
                    (walk_at "dl")
                    refine ⟨flat_strs _, ?_⟩
                    rw [any_str]
                    by_cases hk : key ∈ tb.getD i []
                    · simp only [hk, decide_true, if_true]
                      exact hN _ (by unfold fK; rw [if_pos hk])
                    · simp only [hk, decide_false, Bool.false_eq_true, if_false]
                      exact hN _ (by unfold fK; rw [if_neg hk])
                  · (walk_at "dl")
                    exact hq (.times key (1 + a) _) ⟨⟨by omega, by omega⟩, hkey, by omega, by omega⟩ (fun _ _ _ e => by cases e; omega)
              · rw [if_neg e4]
                have hcnt : ((List.range (1 + a).toNat).filterMap (fK tb key)).length ≤ 4 := Nat.le_trans (List.length_filterMap_le _ _) (by rw [List.length_range]; omega)
                refine lc_fmapT (List.range (1 + a).toNat) (fun i => D.int (0 + (i : Nat))) (fK tb key) (rg1 ⟨by omega, by omega⟩ fun R h => ?_) (fun i hi p acc hp N hN => ?_) ?_
                · (walk_at "dl")
                  exact h
                · have hi' := List.mem_range.mp hi
                  (walk_at "dl")
                  rw [atI_map, atG [] (by omega) (by omega)]
                  have e0 : (0 + (i : Int)).toNat = i := by omega
                  rw [e0]
                  refine ⟨_, rfl, ?_⟩
                  (walk_at "dl")
                  refine ⟨flat_strs _, ?_⟩
                  rw [any_str]
                  by_cases hk : key ∈ tb.getD i []
                  · simp only [hk, decide_true, if_true]
                    exact hN _ (by unfold fK; rw [if_pos hk])
                  · simp only [hk, decide_false, Bool.false_eq_true, if_false]
                    exact hN _ (by unfold fK; rw [if_neg hk])
                · (walk_at "dl")
                  exact hq (.times key (1 + a) _) ⟨⟨by omega, by omega⟩, hkey, by omega, by omega⟩ (fun _ _ _ e => by cases e; omega)
  · exact h.elim
)


theorem ok__law_bent (T : Tx K mg) : FnOk P w K mg base CX0 2 T.a__law_bent T.d__law_bent ["draw", "shelf", "piece"] (spD K C__law_bent) :=
  DL.Fun.okD (N := ["draw", "shelf", "piece", "form", "commits"]) T.F__law_bent sc__law_bent (fun cdv A outer s H E hr => 
      (dss_cons (ds_set 3 sc__law_bent.nd (de_call (ok__law_next T) (hr.mono (by decide)) (by rfl) T.m__law_next T.k__law_next T.v__law_next pass0 (da_cons (dv 0) (da_cons de_int da_nil)))) 
      (dss_cons (ds_if (dt_cmp (op_eqD hr.units) od_eq (de_ix ix_seq od_ix (dv 2) de_int (fun _ _ => rfl)) (de_str) (nomark _)) 
      (dss_one (ds_ret (de_tup (da_cons (de_str) (da_cons (de_ix ix_seq od_ix (dv 2) de_int (fun _ _ => rfl)) (da_cons (de_op op_mulD od_mul (de_ix ix_seq od_ix (dv 2) de_int (fun _ _ => rfl)) (de_cmp op_gtD od_gt (dv 3) de_int (nomark _))) (da_cons (de_B (call_max2 rfl) cd_max2 (by rfl) T.b_max (by decide +kernel) (da_cons de_int (da_cons (de_op op_sub od_sub (de_op op_addD od_add (de_ix ix_seq od_ix (dv 2) de_int (fun _ _ => rfl)) (de_op op_mod od_mod (dv 3) de_int)) de_int) da_nil))) da_nil))))))) dss_nil) 
      (dss_cons (ds_if (dt_cmp (op_eqD hr.units) od_eq (de_ix ix_seq od_ix (dv 2) de_int (fun _ _ => rfl)) (de_str) (nomark _)) 
      (dss_one (ds_ret (de_tup (da_cons (de_str) (da_cons (de_ix ix_seq od_ix (dv 2) de_int (fun _ _ => rfl)) (da_cons (de_op op_addD od_add de_int (de_call (ok__law_next T) (hr.mono (by decide)) (by rfl) T.m__law_next T.k__law_next T.v__law_next pass0 (da_cons (dv 0) (da_cons de_int da_nil)))) da_nil)))))) dss_nil) 
      (dss_cons (ds_if (dw_pt (dw_and (dt_cmp op_inD2 od_in (de_ix ix_seq od_ix (dv 2) de_int (fun _ _ => rfl)) (de_tup (da_cons (de_str) (da_cons (de_str) da_nil))) (by rfl)) (dw_and1 (dt_cmp (op_eqD hr.units) od_eq (dv 3) de_int (nomark _))))) 
      (dss_one (ds_ret (de_tup (da_cons (de_ix ix_seq od_ix (dv 2) de_int (fun _ _ => rfl)) (da_cons (de_ix ix_seq od_ix (dv 2) de_int (fun _ _ => rfl)) (da_cons (de_tup (da_cons (de_str) da_nil)) da_nil)))))) dss_nil) 
      (dss_cons (ds_if (dt_cmp op_inD2 od_in (de_ix ix_seq od_ix (dv 2) de_int (fun _ _ => rfl)) (de_tup (da_cons (de_str) (da_cons (de_str) da_nil))) (by rfl)) 
      (dss_cons (ds_set 4 sc__law_bent.nd (de_call (ok__law_commits T) (hr.mono (by decide)) (by rfl) T.m__law_commits T.k__law_commits T.v__law_commits pass0 (da_cons (dv 1) da_nil))) 
      (dss_one (ds_ret (de_tup (da_cons (de_ix ix_seq od_ix (dv 2) de_int (fun _ _ => rfl)) (da_cons (de_ix ix_seq od_ix (dv 2) de_int (fun _ _ => rfl)) (da_cons (de_ix ix_seq od_ix (dv 4) (de_call (ok__law_next T) (hr.mono (by decide)) (by rfl) T.m__law_next T.k__law_next T.v__law_next pass0 (da_cons (dv 0) (da_cons (de_B L2.call_len cd_len (by rfl) T.b_len (by decide +kernel) (da_cons (dv 4) da_nil)) da_nil))) (fun _ _ => rfl)) da_nil))))))) dss_nil) 
      (dss_cons (ds_if (dt_cmp (op_eqD hr.units) od_eq (de_ix ix_seq od_ix (dv 2) de_int (fun _ _ => rfl)) (de_str) (nomark _)) 
      (dss_one (ds_ret (de_tup (da_cons (de_str) (da_cons (de_ix ix_seq od_ix (dv 2) de_int (fun _ _ => rfl)) (da_cons (de_if (dt_tru (dv 3)) (de_ix ix_seq od_ix (dv 1) (de_call (ok__law_next T) (hr.mono (by decide)) (by rfl) T.m__law_next T.k__law_next T.v__law_next pass0 (da_cons (dv 0) (da_cons (de_B L2.call_len cd_len (by rfl) T.b_len (by decide +kernel) (da_cons (dv 1) da_nil)) da_nil))) (fun _ _ => rfl)) (de_str)) da_nil)))))) dss_nil) 
      (dss_one (ds_ret (dv 2))))))))))
    (by intro ds μ Q h; unfold C__law_bent at h; split at h <;> first | rfl | exact h.elim) (by
  intro ds μ Q h
  unfold C__law_bent at h
  split at h
  · rename_i ds' dr s pp
    obtain ⟨hd, sk, hs, q, rfl, rfl, ho, h18, hq⟩ := h
    have hl := shelf3 sk hs
    have hn : 0 < sk.length := List.length_pos_iff.mpr (shelfN sk hs)
    (walk_at "dl")
    refine ⟨hd, by decide, by decide, fun f f0 f1 => ?_⟩
    cases q <;> unfold ePc <;> (walk_at "dl")
    · rename_i v ks
      by_cases e0 : f = 0
      · rw [if_pos e0]
        exact hq (.wrote v ["zz"]) ⟨ho.1, zz_ok⟩
      · rw [if_neg e0]
        refine ⟨sk, hs, rfl, fun cs c1 c2 c3 => ?_⟩
        have n0 : 0 < cs.length := List.length_pos_iff.mpr c1
        (walk_at "dl")
        refine ⟨hd, by rw [List.length_map]; omega, by rw [List.length_map]; omega, fun b b0 b1 => ?_⟩
        rw [List.length_map] at b1
        (walk_at "dl")
        rw [atI_map, atG [] b0 (by omega)]
        refine ⟨_, rfl, ?_⟩
        have hcc := c3 _ (show cs.getD b.toNat [] ∈ cs from (by rw [List.getD_eq_getElem?_getD, List.getElem?_eq_getElem (by omega)]; exact List.getElem_mem _))
        exact hq (.wrote v _) ⟨ho.1, sub_keys hs hcc.2 hcc.1⟩
    · refine ⟨hd, by decide, by decide, fun a a0 a1 => ?_⟩
      (walk_at "dl")
      exact hq (.many _ _) ⟨ho.1, by omega, by omega⟩
    · rename_i v ks
      by_cases e0 : f = 0
      · rw [if_pos e0]
        exact hq (.among v ["zz"]) ⟨ho.1, zz_ok⟩
      · rw [if_neg e0]
        refine ⟨sk, hs, rfl, fun cs c1 c2 c3 => ?_⟩
        have n0 : 0 < cs.length := List.length_pos_iff.mpr c1
        (walk_at "dl")
        refine ⟨hd, by rw [List.length_map]; omega, by rw [List.length_map]; omega, fun b b0 b1 => ?_⟩
        rw [List.length_map] at b1
        (walk_at "dl")
        rw [atI_map, atG [] b0 (by omega)]
        refine ⟨_, rfl, ?_⟩
        have hcc := c3 _ (show cs.getD b.toNat [] ∈ cs from (by rw [List.getD_eq_getElem?_getD, List.getElem?_eq_getElem (by omega)]; exact List.getElem_mem _))
        exact hq (.among v _) ⟨ho.1, sub_keys hs hcc.2 hcc.1⟩
    · rename_i v k
      by_cases e0 : f = 0
      · rw [if_neg (by simp [e0])]
        exact hq (.did v "zz") ⟨ho.1, by decide +kernel⟩
      · rw [if_pos (by simp [e0])]
        unfold eKeys
        (walk_at "dl")
        refine ⟨hd, by rw [List.length_map]; omega, by rw [List.length_map]; omega, fun b b0 b1 => ?_⟩
        rw [List.length_map] at b1
        (walk_at "dl")
        rw [atI_map, atG ⟨#[]⟩ b0 (by omega)]
        exact ⟨_, rfl, hq (.did v _) ⟨ho.1, (shelf_ok sk hs).2 _ (by rw [List.getD_eq_getElem?_getD, List.getElem?_eq_getElem (by omega)]; exact List.getElem_mem _)⟩⟩
    · rename_i k v n
      have h18' := h18 k v n rfl
      obtain ⟨⟨h1, h2⟩, hk, h3, h4⟩ := ho
      have hmx : 0 ≤ maxI 0 (n + f % 3 - 1) ∧ maxI 0 (n + f % 3 - 1) ≤ 20 := by unfold maxI; split <;> omega
      refine ⟨by decide, hq (.times _ _ _) ⟨?_, hk, hmx⟩⟩
      by_cases hf : 0 < f
      · simp only [hf, decide_true, b2I, if_true]
        exact ⟨by omega, by omega⟩
      · simp only [hf, decide_false, b2I, Bool.false_eq_true, if_false]
        exact ⟨by omega, by omega⟩
    · exact hq (.value _ _ _) ho
    · exact hq (.head _) ho
  · exact h.elim
)


end
end K41
end

-- part B1
section
local macro_rules | `(tactic| walk_at "dl") => `(tactic| simp only [DL.sRet, DL.dJoined, DL.dJs, DL.dFmt, DL.dFld, DL.dMeth, DL.dMake, DL.sFld, DL.sFldI, DL.sSeq, DL.sSet, DL.sIf, DL.sNext, DL.sNever, DL.sDrop, DL.sAsg, DL.sRetN, DL.dVar, DL.dC, DL.dOp, DL.dTest, DL.dAnd, DL.dOr, DL.dNot, DL.dTru, DL.dAndV, DL.dOrV, DL.dNotV, DL.dIf, DL.aNil, DL.aCons, DL.dTup, DL.dLst, DL.dLstM, DL.dCall, DL.dFrz, DL.dB, DL.dNeg, DL.dSl, DL.oNone, DL.oSome, DL.dChn, DL.gN, DL.gT, DL.setAll,
  DL.ix_l, DL.ix_t, DL.ix_s, DL.ix_p, DL.add_i, DL.add_s, DL.add_l, DL.add_t, DL.mul_i, DL.mul_b, DL.sub_i, DL.fdiv_i, DL.mod_i, DL.pow_i, DL.shl_i, DL.shr_i, DL.and_i, DL.lt_i, DL.le_i, DL.gt_i, DL.ge_i, DL.le_s, DL.in_t, DL.in_l, DL.in_s, DL.len_l, DL.len_t, DL.len_s, DL.len_p, DL.list_l, DL.list_t, DL.list_s, DL.list_p, DL.tuple_l, DL.tuple_t, DL.int_i, DL.int_b, DL.abs_i, DL.max_i, DL.min_i, DL.all_l, DL.any_l, DL.isi_1, DL.isi_n, DL.sl_l, DL.sl_t, DL.sl_s, DL.neg_i, DL.isN_i, DL.notN_i, DL.eq_x, DL.ne_x,
  DL.w_wrote_many, DL.w_wrote_many_b, DL.w_wrote_among, DL.w_wrote_among_b, DL.w_wrote_did, DL.w_wrote_did_b, DL.w_wrote_times, DL.w_wrote_times_b, DL.w_wrote_value, DL.w_wrote_value_b, DL.w_wrote_head, DL.w_wrote_head_b, DL.w_many_wrote, DL.w_many_wrote_b, DL.w_many_among, DL.w_many_among_b, DL.w_many_did, DL.w_many_did_b, DL.w_many_times, DL.w_many_times_b, DL.w_many_value, DL.w_many_value_b, DL.w_many_head, DL.w_many_head_b, DL.w_among_wrote, DL.w_among_wrote_b, DL.w_among_many, DL.w_among_many_b, DL.w_among_did, DL.w_among_did_b, DL.w_among_times, DL.w_among_times_b, DL.w_among_value, DL.w_among_value_b, DL.w_among_head, DL.w_among_head_b, DL.w_did_wrote, DL.w_did_wrote_b, DL.w_did_many, DL.w_did_many_b, DL.w_did_among, DL.w_did_among_b, DL.w_did_times, DL.w_did_times_b, DL.w_did_value, DL.w_did_value_b, DL.w_did_head, DL.w_did_head_b, DL.w_times_wrote, DL.w_times_wrote_b, DL.w_times_many, DL.w_times_many_b, DL.w_times_among, DL.w_times_among_b, DL.w_times_did, DL.w_times_did_b, DL.w_times_value, DL.w_times_value_b, DL.w_times_head, DL.w_times_head_b, DL.w_value_wrote, DL.w_value_wrote_b, DL.w_value_many, DL.w_value_many_b, DL.w_value_among, DL.w_value_among_b, DL.w_value_did, DL.w_value_did_b, DL.w_value_times, DL.w_value_times_b, DL.w_value_head, DL.w_value_head_b, DL.w_head_wrote, DL.w_head_wrote_b, DL.w_head_many, DL.w_head_many_b, DL.w_head_among, DL.w_head_among_b, DL.w_head_did, DL.w_head_did_b, DL.w_head_times, DL.w_head_times_b, DL.w_head_value, DL.w_head_value_b,
  DL.q_ss, DL.q_ii, DL.q_bb, DL.q_nn, DL.q_tt, DL.q_ll, DL.q_si, DL.q_sn, DL.q_st, DL.q_sl, DL.q_is, DL.q_in, DL.q_it, DL.q_il, DL.q_ns, DL.q_ni, DL.q_nt, DL.q_nl, DL.q_ts, DL.q_ti, DL.q_tn, DL.q_tl, DL.q_ls, DL.q_li, DL.q_ln, DL.q_lt, DL.qs_nil, DL.qs_cons, DL.qs_nc, DL.qs_cn, DL.p_t16, DL.p_l16, DL.p_t15, DL.p_l15, DL.p_t14, DL.p_l14, DL.p_t13, DL.p_l13, DL.p_t12, DL.p_l12, DL.p_s, DL.p_i, DL.p_b, DL.p_n, DL.ps_nil, DL.ps_cons, DL.t_b, DL.t_i, DL.t_l, DL.t_t, DL.t_n, DL.n_n, DL.n_i, DL.n_s, DL.n_t, DL.n_l, DL.n_b, DL.f_s, DL.f_i,
  Bool.false_and, Bool.and_false, DL.z0, DL.z1, DL.z2, DL.z3, DL.z4, DL.z5, DL.z6, DL.z12,
  DL.startD, DL.sFrz, DL.sApp, DL.yesD, DL.lcTurn, DL.wipeE, DL.at0, DL.at1, DL.at2, DL.at3, DL.at4, List.map_cons, List.map_nil, List.replicate_succ, List.replicate_zero, List.length_cons, List.length_nil, List.cons_append, List.nil_append, List.set_cons_zero, List.set_cons_succ, List.getElem?_cons_zero, List.getElem?_cons_succ, Option.some.injEq, exists_eq_left, exists_eq_left', exists_eq', exists_eq, true_and, and_true, decide_eq_true_eq, if_true, if_false, Bool.false_eq_true, reduceIte, Nat.reduceAdd, Nat.reduceSub, DL.D.bl.injEq, DL.D.int.injEq, DL.D.str.injEq, DL.D.tup.injEq, DL.D.lst.injEq, DL.D.ptr.injEq, Bool.not_true, Bool.not_false, beq_self_eq_true, List.all_cons, List.all_nil, List.any_cons, List.any_nil, Bool.and_true, Bool.true_and, Bool.or_false, Bool.false_or, Bool.or_true, Bool.true_or, Bool.false_xor, Bool.true_xor, beq_iff_eq, Bool.not_eq_true, Int.reduceEq, Int.reduceBEq, and_self])

namespace K41
open PySem L2 DL
def C__law_news : CT := fun ds μ Q => match ds with
  | [.ptr dr, s, .int m, .int many, .bl b] => μ dr = some .draw ∧ b = true ∧ m = 4 ∧ many = 6 ∧ ∃ sk ∈ shelves, s = eKeys sk ∧ ∀ ns : List Pc, ns.length ≤ 6 → (∀ q ∈ ns, okP q) → Q (eNews ns) μ
  | _ => False
def C__law_odd : CT := fun ds μ Q => match ds with
  | [.ptr dr, p] => μ dr = some .draw ∧ ∃ q : Pc, p = ePc q ∧ okP q ∧ ∀ q', okP q' → Q (ePc q') μ
  | _ => False
theorem four_ok : okKeys ["at", "by", "many", "wrote"] := ⟨by simp, by decide, by decide +kernel, by decide +kernel⟩
section
variable {P : Program} {w : World} {K : PySem.W.Frag} {mg : Str → Option Value} {base : Heap}
theorem ok__law_news (T : Tx K mg) : FnOk P w K mg base CX0 3 T.a__law_news T.d__law_news ["draw", "shelf", "most", "many", "bends"] (spD K C__law_news) :=
  DL.Fun.okD (N := ["draw", "shelf", "most", "many", "bends", "commits", "table", "k", "news", "piece"]) T.F__law_news sc__law_news (fun cdv A outer s H E hr => 
      (dss_cons (ds_set 5 sc__law_news.nd (de_call (ok__law_commits T) (hr.mono (by decide)) (by rfl) T.m__law_commits T.k__law_commits T.v__law_commits pass0 (da_cons (dv 1) da_nil))) 
      (dss_cons (ds_setLc 6 [("k", 7)] rfl sc__law_news.nd (sw_true rfl rfl rfl (by decide +kernel)) (di_rg1 (by rfl) T.b_range (da_cons (dv 2) da_nil)) (blkOk_by (sc := (defScope s__law_news)) (own := [("k", 7)]) (N := ["draw", "shelf", "most", "many", "bends", "commits", "table", "k", "news", "piece"]) (by decide +kernel)) (fun _ _ _ _ _ => (dg_name 7 sc__law_news.nd)) (fun _ _ _ _ _ => dts_nil) (fun _ _ _ _ _ => (de_ix ix_seq od_ix (dv 5) (de_call (ok__law_next T) (hr.mono (by decide)) (by rfl) T.m__law_next T.k__law_next T.v__law_next pass0 (da_cons (dv 0) (da_cons (de_B L2.call_len cd_len (by rfl) T.b_len (by decide +kernel) (da_cons (dv 5) da_nil)) da_nil))) (fun _ _ => rfl)))) 
      (dss_cons (ds_set 8 sc__law_news.nd (de_lstM da_nil)) 
      (dss_cons (ds_for PassesOwn.never rfl (di_rg1 (by rfl) T.b_range (da_cons (de_call (ok__law_next T) (hr.mono (by decide)) (by rfl) T.m__law_next T.k__law_next T.v__law_next pass0 (da_cons (dv 0) (da_cons (de_op op_addD od_add (dv 3) de_int) da_nil))) da_nil)) (dg_name 7 sc__law_news.nd) 
      (dss_cons (ds_set 9 sc__law_news.nd (de_call (ok__law_told T) (hr.mono (by decide)) (by rfl) T.m__law_told T.k__law_told T.v__law_told pass0 (da_cons (dv 0) (da_cons (dv 1) (da_cons (dv 6) (da_cons (dv 2) da_nil)))))) 
      (dss_one (ds_app (dv 8) (de_if (dw_pt (dw_and (dt_tru (dv 4)) (dw_and1 (dt_cmp (op_eqD hr.units) od_eq (de_call (ok__law_next T) (hr.mono (by decide)) (by rfl) T.m__law_next T.k__law_next T.v__law_next pass0 (da_cons (dv 0) (da_cons de_int da_nil))) de_int (nomark _))))) (de_call (ok__law_bent T) (hr.mono (by decide)) (by rfl) T.m__law_bent T.k__law_bent T.v__law_bent pass0 (da_cons (dv 0) (da_cons (dv 1) (da_cons (dv 9) da_nil)))) (dv 9)))))) 
      (dss_frz 8 (dss_one (ds_ret (dv 8)))))))))
    (by intro ds μ Q h; unfold C__law_news at h; split at h <;> first | rfl | exact h.elim) (by
  intro ds μ Q h
  unfold C__law_news at h
  split at h
  · rename_i ds' dr s m many b
    obtain ⟨hd, rfl, rfl, rfl, sk, hs, rfl, hq⟩ := h
    refine step_set (fun d μ2 => ∃ cs : List (List Str), cs ≠ [] ∧ cs.length ≤ 7 ∧ (∀ c ∈ cs, c ≠ [] ∧ c.Sublist sk) ∧ d = .lst (cs.map eKeys) ∧ μ2 = μ) (fun R hR => ?_) fun d μ2 hS => ?_
    · (walk_at "dl")
      exact ⟨sk, hs, rfl, fun cs c1 c2 c3 => hR _ _ ⟨cs, c1, c2, c3, rfl, rfl⟩⟩
    obtain ⟨cs, c1, c2, c3, rfl, rfl⟩ := hS
    have n0 : 0 < cs.length := List.length_pos_iff.mpr c1
    refine step_set (fun d μ3 => ∃ tb : List (List Str), tb.length = 4 ∧ (∀ c ∈ tb, c ≠ [] ∧ c.Sublist sk) ∧ d = eTab tb ∧ μ3 = μ2) (fun R hR => ?_) fun d μ3 hS => ?_
    · refine lc_byT (List.range 4) (fun i : Nat => D.int (0 + (i : Nat))) (fun _ r => ∃ c ∈ cs, r = some (eKeys c)) (rg1 (i := 4) ⟨by omega, by omega⟩ fun R h => ?_) (fun i hi p acc hp N hN => ?_) fun rs hrs => ?_
      · (walk_at "dl")
        exact h
      · (walk_at "dl")
        refine ⟨by rw [Mu.put_ne (Mu.ne_of hd hp)]; exact hd, by rw [List.length_map]; omega, by rw [List.length_map]; omega, fun x x0 x1 => ?_⟩
        rw [List.length_map] at x1
        (walk_at "dl")
        rw [atI_map, atG [] x0 (by omega)]
        exact ⟨_, rfl, hN _ ⟨_, by rw [List.getD_eq_getElem?_getD, List.getElem?_eq_getElem (by omega)]; exact List.getElem_mem _, rfl⟩⟩
      · have hk : ∀ (l : List Nat) (rs : List (Option D)), All2 (fun _ r => ∃ c ∈ cs, r = some (eKeys c)) l rs → ∃ tb : List (List Str), rs.filterMap id = tb.map eKeys ∧ tb.length = l.length ∧ ∀ c ∈ tb, c ∈ cs := by
          intro l rs h
          induction h with
          | nil => exact ⟨[], rfl, rfl, by simp⟩
          | @cons k r l rs h1 h2 ih =>
            obtain ⟨tb, e, e2, e3⟩ := ih
            obtain ⟨c, hc, rfl⟩ := h1
            refine ⟨c :: tb, by simp [e], by simp [e2], fun d hd => ?_⟩
            rcases List.mem_cons.mp hd with h | h
            · subst h; exact hc
            · exact e3 d h
        obtain ⟨tb, e, e2, e3⟩ := hk _ _ hrs
        rw [e]
        exact hR _ _ ⟨tb, by rw [e2]; rfl, fun c hc => c3 c (e3 c hc), rfl, rfl⟩
    obtain ⟨tb, t1, t2, rfl, rfl⟩ := hS
    refine step_set (fun d μ4 => ∃ p, d = .ptr p ∧ μ3 p = none ∧ μ4 = μ3.put p (.lst [])) (fun R hR => ?_) fun d μ4 hS => ?_
    · (walk_at "dl")
      exact fun p hp => hR _ _ ⟨p, rfl, hp, rfl⟩
    obtain ⟨p, rfl, hp, rfl⟩ := hS
    have hdp : ∀ o : MO, (μ3.put p o) dr = some .draw := fun o => by rw [Mu.put_ne (Mu.ne_of hd hp)]; exact hd
    show sSeq _ _ _ [some (.ptr dr), some (eKeys sk), some (.int 4), some (.int 6), some (.bl true), some (.lst (cs.map eKeys)), some (eTab tb), none, some (.ptr p), none] _
    refine step_forQ (fun i : Nat => D.int (0 + (i : Nat))) (fun l => l.length ≤ 6) (fun pre ρ' μ4 => (∃ i j, ρ' = [some (.ptr dr), some (eKeys sk), some (.int 4), some (.int 6), some (.bl true), some (.lst (cs.map eKeys)), some (eTab tb), i, some (.ptr p), j]) ∧ ∃ ns : List Pc, ns.length ≤ pre.length ∧ (∀ q ∈ ns, okP q) ∧ μ4 = μ3.put p (.lst (ns.map ePc))) (fun R hR => ?_) ⟨⟨_, _, rfl⟩, [], Nat.le_refl _, by simp, rfl⟩ (fun l0 pre i post ρ' μ4 hG e2 hI E1 hrt1 hE1 => ?_) fun l0 ρ' μ4 hG hI => ?_
    · unfold iRg1
      (walk_at "dl")
      refine ⟨hdp _, by decide, by decide, fun y y0 y1 => ⟨⟨by omega, by omega⟩, hR (List.range y.toNat) ?_⟩⟩
      rw [List.length_range]; omega
    · obtain ⟨⟨x, y, rfl⟩, ns, hn, hov, rfl⟩ := hI
      have hpl : pre.length ≤ 6 := by
        have h := congrArg List.length e2
        rw [List.length_append] at h
        omega
      show sSeq _ _ E1 [some (.ptr dr), some (eKeys sk), some (.int 4), some (.int 6), some (.bl true), some (.lst (cs.map eKeys)), some (eTab tb), some (.int (0 + (i : Int))), some (.ptr p), y] _
      (walk_at "dl")
      refine ⟨hdp _, sk, hs, tb, rfl, rfl, by omega, by omega, by omega, t2, fun pc opc o18 => ?_⟩
      (walk_at "dl")
      refine ⟨p, _, rfl, Mu.put_same, hdp _, by decide, by decide, fun y y0 y1 => ⟨p_i, ?_⟩⟩
      have fin : ∀ pc' : Pc, okP pc' → ∃ ds, (μ3.put p (.lst (ns.map ePc))) p = some (.lst ds) ∧ ds.length < sizeLine ∧ E1.nx [some (.ptr dr), some (eKeys sk), some (.int 4), some (.int 6), some (.bl true), some (.lst (cs.map eKeys)), some (eTab tb), some (.int (0 + (i : Int))), some (.ptr p), some (ePc pc)] ((μ3.put p (.lst (ns.map ePc))).put p (.lst (ds ++ [ePc pc']))) := fun pc' ho' => by
        refine ⟨_, Mu.put_same, sz_small' (by rw [List.length_map]; omega), ?_⟩
        rw [Mu.put_put]
        refine hE1 _ _ ⟨⟨_, _, rfl⟩, ns ++ [pc'], by rw [List.length_append, List.length_append, List.length_singleton, List.length_singleton]; omega, fun q' hq' => ?_, by rw [List.map_append]; rfl⟩
        rcases List.mem_append.mp hq' with h | h
        · exact hov _ h
        · simp at h; subst h; exact ho'
      (walk_at "dl")
      by_cases hy : y = 0
      · rw [if_pos hy]
        exact ⟨hdp _, sk, hs, pc, rfl, rfl, opc, o18, fun pc' opc' => fin pc' opc'⟩
      · rw [if_neg hy]
        exact fin pc opc
    · obtain ⟨⟨x, y, rfl⟩, ns, hn, hov, rfl⟩ := hI
      refine ⟨p, _, rfl, Mu.put_same, ?_⟩
      rw [Mu.put_del hp]
      (walk_at "dl")
      exact hq ns (by omega) hov
  · exact h.elim
)

theorem ok__law_odd (T : Tx K mg) : FnOk P w K mg base CX0 2 T.a__law_odd T.d__law_odd ["draw", "piece"] (spD K C__law_odd) :=
  DL.Fun.okD (N := ["draw", "piece", "value", "number"]) T.F__law_odd sc__law_odd (fun cdv A outer s H E hr => 
      (dss_cons (ds_if (dw_pt (dw_and (dt_cmp op_inD2 od_in (de_ix ix_seq od_ix (dv 1) de_int (fun _ _ => rfl)) (de_tup (da_cons (de_str) (da_cons (de_str) da_nil))) (by rfl)) (dw_and1 (dt_cmp (op_eqD hr.units) od_eq (de_call (ok__law_next T) (hr.mono (by decide)) (by rfl) T.m__law_next T.k__law_next T.v__law_next pass0 (da_cons (dv 0) (da_cons de_int da_nil))) de_int (nomark _))))) 
      (dss_one (ds_ret (de_tup (da_cons (de_ix ix_seq od_ix (dv 1) de_int (fun _ _ => rfl)) (da_cons (de_ix ix_seq od_ix (dv 1) de_int (fun _ _ => rfl)) (da_cons (de_tup (da_cons (de_str) (da_cons (de_str) (da_cons (de_str) (da_cons (de_str) da_nil))))) da_nil)))))) dss_nil) 
      (dss_cons (ds_if (dt_cmp (op_eqD hr.units) od_eq (de_ix ix_seq od_ix (dv 1) de_int (fun _ _ => rfl)) (de_str) (nomark _)) 
      (dss_cons (ds_set 2 sc__law_odd.nd (de_ix ix_seq od_ix (de_lst (da_cons (de_op op_sub od_sub (de_op op_mulD od_mul (de_call (ok__law_next T) (hr.mono (by decide)) (by rfl) T.m__law_next T.k__law_next T.v__law_next pass0 (da_cons (dv 0) (da_cons de_int da_nil))) de_int) de_int) (da_cons (de_op op_sub od_sub (de_call (ok__law_next T) (hr.mono (by decide)) (by rfl) T.m__law_next T.k__law_next T.v__law_next pass0 (da_cons (dv 0) (da_cons de_int da_nil))) de_int) (da_cons de_int (da_cons (de_neg de_int) da_nil))))) (de_call (ok__law_next T) (hr.mono (by decide)) (by rfl) T.m__law_next T.k__law_next T.v__law_next pass0 (da_cons (dv 0) (da_cons de_int da_nil))) (fun _ _ => rfl))) 
      (dss_one (ds_ret (de_tup (da_cons (de_str) (da_cons (de_ix ix_seq od_ix (de_lst (da_cons (de_str) (da_cons (de_str) (da_cons (de_ix ix_seq od_ix (dv 1) de_int (fun _ _ => rfl)) da_nil)))) (de_call (ok__law_next T) (hr.mono (by decide)) (by rfl) T.m__law_next T.k__law_next T.v__law_next pass0 (da_cons (dv 0) (da_cons de_int da_nil))) (fun _ _ => rfl)) (da_cons (de_op op_addD od_add de_int (de_call (ok__law_next T) (hr.mono (by decide)) (by rfl) T.m__law_next T.k__law_next T.v__law_next pass0 (da_cons (dv 0) (da_cons de_int da_nil)))) (da_cons (dv 2) da_nil)))))))) dss_nil) 
      (dss_cons (ds_if (dw_pt (dw_and (dt_cmp op_inD2 od_in (de_ix ix_seq od_ix (dv 1) de_int (fun _ _ => rfl)) (de_tup (da_cons (de_str) (da_cons (de_str) (da_cons (de_str) da_nil)))) (by rfl)) (dw_and1 (dt_cmp (op_eqD hr.units) od_eq (de_call (ok__law_next T) (hr.mono (by decide)) (by rfl) T.m__law_next T.k__law_next T.v__law_next pass0 (da_cons (dv 0) (da_cons de_int da_nil))) de_int (nomark _))))) 
      (dss_cons (ds_set 3 sc__law_odd.nd (de_call (ok__law_next T) (hr.mono (by decide)) (by rfl) T.m__law_next T.k__law_next T.v__law_next pass0 (da_cons (dv 0) (da_cons de_int da_nil)))) 
      (dss_cons (ds_if (dt_cmp (op_eqD hr.units) od_eq (de_ix ix_seq od_ix (dv 1) de_int (fun _ _ => rfl)) (de_str) (nomark _)) 
      (dss_one (ds_ret (de_tup (da_cons (de_str) (da_cons (dv 3) da_nil))))) dss_nil) 
      (dss_cons (ds_if (dt_cmp (op_eqD hr.units) od_eq (de_ix ix_seq od_ix (dv 1) de_int (fun _ _ => rfl)) (de_str) (nomark _)) 
      (dss_one (ds_ret (de_tup (da_cons (de_str) (da_cons (de_op op_addD od_add de_int (de_call (ok__law_next T) (hr.mono (by decide)) (by rfl) T.m__law_next T.k__law_next T.v__law_next pass0 (da_cons (dv 0) (da_cons de_int da_nil)))) (da_cons (de_B (call_max2 rfl) cd_max2 (by rfl) T.b_max (by decide +kernel) (da_cons de_int (da_cons (dv 3) da_nil))) da_nil)))))) dss_nil) 
      (dss_one (ds_ret (de_tup (da_cons (de_str) (da_cons (de_ix ix_seq od_ix (de_lst (da_cons (de_str) (da_cons (de_str) (da_cons (de_str) da_nil)))) (de_call (ok__law_next T) (hr.mono (by decide)) (by rfl) T.m__law_next T.k__law_next T.v__law_next pass0 (da_cons (dv 0) (da_cons de_int da_nil))) (fun _ _ => rfl)) (da_cons (dv 3) (da_cons (de_call (ok__law_next T) (hr.mono (by decide)) (by rfl) T.m__law_next T.k__law_next T.v__law_next pass0 (da_cons (dv 0) (da_cons de_int da_nil))) da_nil)))))))))) dss_nil) 
      (dss_cons (ds_if (dw_pt (dw_and (dt_cmp (op_eqD hr.units) od_eq (de_ix ix_seq od_ix (dv 1) de_int (fun _ _ => rfl)) (de_str) (nomark _)) (dw_and1 (dt_cmp (op_eqD hr.units) od_eq (de_call (ok__law_next T) (hr.mono (by decide)) (by rfl) T.m__law_next T.k__law_next T.v__law_next pass0 (da_cons (dv 0) (da_cons de_int da_nil))) de_int (nomark _))))) 
      (dss_one (ds_ret (de_tup (da_cons (de_str) (da_cons de_int (da_cons (de_str) da_nil)))))) dss_nil) 
      (dss_one (ds_ret (dv 1))))))))
    (by intro ds μ Q h; unfold C__law_odd at h; split at h <;> first | rfl | exact h.elim) (by
  intro ds μ Q h
  unfold C__law_odd at h
  split at h
  · rename_i ds' dr p
    obtain ⟨hd, q, rfl, ho, hq⟩ := h
    cases q <;> unfold ePc <;> (walk_at "dl")
    · rename_i v ks
      refine ⟨hd, by decide, by decide, fun x x0 x1 => ⟨p_i, ?_⟩⟩
      (walk_at "dl")
      split
      · exact hq (.wrote v ["at", "by", "many", "wrote"]) ⟨ho.1, four_ok⟩
      · exact hq _ ho
    · rename_i v n
      refine ⟨hd, by decide, by decide, fun x x0 x1 => ⟨p_i, ?_⟩⟩
      (walk_at "dl")
      split
      · refine ⟨hd, by decide, by decide, fun a a0 a1 => ?_⟩
        refine ⟨hd, by decide, by decide, fun b b0 b1 => ?_⟩
        (walk_at "dl")
        exact hq (.many (1 + b) (maxI 1 a)) ⟨⟨by omega, by omega⟩, by unfold maxI; split <;> omega⟩
      · exact hq _ ho
    · rename_i v ks
      refine ⟨hd, by decide, by decide, fun x x0 x1 => ⟨p_i, ?_⟩⟩
      (walk_at "dl")
      split
      · exact hq (.among v ["at", "by", "many", "wrote"]) ⟨ho.1, four_ok⟩
      · exact hq _ ho
    · rename_i v k
      refine ⟨hd, by decide, by decide, fun x x0 x1 => ⟨p_i, ?_⟩⟩
      (walk_at "dl")
      split
      · exact hq (.did 20 "head") ⟨⟨by omega, by omega⟩, by decide +kernel⟩
      · exact hq _ ho
    · rename_i k v n
      refine ⟨hd, by decide, by decide, fun x x0 x1 => ⟨p_i, ?_⟩⟩
      (walk_at "dl")
      split
      · refine ⟨hd, by decide, by decide, fun a a0 a1 => ?_⟩
        refine ⟨hd, by decide, by decide, fun b b0 b1 => ?_⟩
        (walk_at "dl")
        have hb : b = 0 ∨ b = 1 ∨ b = 2 := by omega
        have fin : ∀ k : Str, okKey k → C__law_next [D.ptr dr, D.int 21] μ fun d_1 μ1 => Q (D.tup [D.str (Str.ofString "times"), D.str k, D.int a, d_1]) μ1 := fun k hk =>
          ⟨hd, by decide, by decide, fun c c0 c1 => hq (.times k a c) ⟨⟨by omega, by omega⟩, hk, by omega, by omega⟩⟩
        rcases hb with rfl | rfl | rfl
        · exact ⟨_, at0, fin _ (by decide +kernel)⟩
        · exact ⟨_, at1, fin _ (by decide +kernel)⟩
        · exact ⟨_, at2, fin _ (by decide +kernel)⟩
      · exact hq _ ho
    · rename_i k n x
      refine ⟨hd, by decide, by decide, fun a a0 a1 => ?_⟩
      (walk_at "dl")
      refine ⟨Or.inr ⟨by omega, by omega⟩, hd, by decide, by decide, fun b b0 b1 => ?_⟩
      (walk_at "dl")
      refine ⟨hd, by decide, by decide, fun c c0 c1 => ?_⟩
      (walk_at "dl")
      have hc : c = 0 ∨ c = 1 ∨ c = 2 ∨ c = 3 := by omega
      have fin2 : ∀ (X : Int) (k : Str), -1000000 ≤ X → X ≤ 1000000 → okKey k → C__law_next [D.ptr dr, D.int 20] μ fun y μ2 => fAdd μ2 (D.int 1) y fun z_3 => Q (D.tup [D.str (Str.ofString "value"), D.str k, z_3, D.int X]) μ2 := fun X k h1 h2 hk =>
        ⟨hd, by decide, by decide, fun e e0 e1 => hq (.value k (1 + e) X) ⟨⟨by omega, by omega⟩, hk, h1, h2⟩⟩
      have fin : ∀ X : Int, -1000000 ≤ X → X ≤ 1000000 → C__law_next [D.ptr dr, D.int 3] μ fun y μ2 => fIx μ2 (D.lst [D.str (Str.ofString "abcdefgh"), D.str (Str.ofString "letter"), D.str k]) y fun z_2 => C__law_next [D.ptr dr, D.int 20] μ2 fun y μ2 => fAdd μ2 (D.int 1) y fun z_3 => Q (D.tup [D.str (Str.ofString "value"), z_2, z_3, D.int X]) μ2 := fun X h1 h2 =>
        ⟨hd, by decide, by decide, fun y y0 y1 => by
          have hy : y = 0 ∨ y = 1 ∨ y = 2 := by omega
          rcases hy with rfl | rfl | rfl
          · exact ⟨_, at0, fin2 X _ h1 h2 (by decide +kernel)⟩
          · exact ⟨_, at1, fin2 X _ h1 h2 (by decide +kernel)⟩
          · exact ⟨_, at2, fin2 X _ h1 h2 ho.2.1⟩⟩
      rcases hc with rfl | rfl | rfl | rfl
      · exact ⟨_, at0, fin _ (by omega) (by omega)⟩
      · exact ⟨_, at1, fin _ (by omega) (by omega)⟩
      · exact ⟨_, at2, fin _ (by omega) (by omega)⟩
      · exact ⟨_, at3, fin _ (by omega) (by omega)⟩
    · rename_i v
      refine ⟨hd, by decide, by decide, fun x x0 x1 => ⟨p_i, ?_⟩⟩
      (walk_at "dl")
      split
      · refine ⟨hd, by decide, by decide, fun a a0 a1 => ?_⟩
        (walk_at "dl")
        exact hq (.head a) ⟨by omega, by omega⟩
      · exact hq _ ho
  · exact h.elim
)

end
end K41
end

-- part B2
section
local macro_rules | `(tactic| walk_at "dl") => `(tactic| simp only [DL.sRet, DL.dJoined, DL.dJs, DL.dFmt, DL.dFld, DL.dMeth, DL.dMake, DL.sFld, DL.sFldI, DL.sSeq, DL.sSet, DL.sIf, DL.sNext, DL.sNever, DL.sDrop, DL.sAsg, DL.sRetN, DL.dVar, DL.dC, DL.dOp, DL.dTest, DL.dAnd, DL.dOr, DL.dNot, DL.dTru, DL.dAndV, DL.dOrV, DL.dNotV, DL.dIf, DL.aNil, DL.aCons, DL.dTup, DL.dLst, DL.dLstM, DL.dCall, DL.dFrz, DL.dB, DL.dNeg, DL.dSl, DL.oNone, DL.oSome, DL.dChn, DL.gN, DL.gT, DL.setAll,
  DL.ix_l, DL.ix_t, DL.ix_s, DL.ix_p, DL.add_i, DL.add_s, DL.add_l, DL.add_t, DL.mul_i, DL.mul_b, DL.sub_i, DL.fdiv_i, DL.mod_i, DL.pow_i, DL.shl_i, DL.shr_i, DL.and_i, DL.lt_i, DL.le_i, DL.gt_i, DL.ge_i, DL.le_s, DL.in_t, DL.in_l, DL.in_s, DL.len_l, DL.len_t, DL.len_s, DL.len_p, DL.list_l, DL.list_t, DL.list_s, DL.list_p, DL.tuple_l, DL.tuple_t, DL.int_i, DL.int_b, DL.abs_i, DL.max_i, DL.min_i, DL.all_l, DL.any_l, DL.isi_1, DL.isi_n, DL.sl_l, DL.sl_t, DL.sl_s, DL.neg_i, DL.isN_i, DL.notN_i, DL.eq_x, DL.ne_x,
  DL.w_wrote_many, DL.w_wrote_many_b, DL.w_wrote_among, DL.w_wrote_among_b, DL.w_wrote_did, DL.w_wrote_did_b, DL.w_wrote_times, DL.w_wrote_times_b, DL.w_wrote_value, DL.w_wrote_value_b, DL.w_wrote_head, DL.w_wrote_head_b, DL.w_many_wrote, DL.w_many_wrote_b, DL.w_many_among, DL.w_many_among_b, DL.w_many_did, DL.w_many_did_b, DL.w_many_times, DL.w_many_times_b, DL.w_many_value, DL.w_many_value_b, DL.w_many_head, DL.w_many_head_b, DL.w_among_wrote, DL.w_among_wrote_b, DL.w_among_many, DL.w_among_many_b, DL.w_among_did, DL.w_among_did_b, DL.w_among_times, DL.w_among_times_b, DL.w_among_value, DL.w_among_value_b, DL.w_among_head, DL.w_among_head_b, DL.w_did_wrote, DL.w_did_wrote_b, DL.w_did_many, DL.w_did_many_b, DL.w_did_among, DL.w_did_among_b, DL.w_did_times, DL.w_did_times_b, DL.w_did_value, DL.w_did_value_b, DL.w_did_head, DL.w_did_head_b, DL.w_times_wrote, DL.w_times_wrote_b, DL.w_times_many, DL.w_times_many_b, DL.w_times_among, DL.w_times_among_b, DL.w_times_did, DL.w_times_did_b, DL.w_times_value, DL.w_times_value_b, DL.w_times_head, DL.w_times_head_b, DL.w_value_wrote, DL.w_value_wrote_b, DL.w_value_many, DL.w_value_many_b, DL.w_value_among, DL.w_value_among_b, DL.w_value_did, DL.w_value_did_b, DL.w_value_times, DL.w_value_times_b, DL.w_value_head, DL.w_value_head_b, DL.w_head_wrote, DL.w_head_wrote_b, DL.w_head_many, DL.w_head_many_b, DL.w_head_among, DL.w_head_among_b, DL.w_head_did, DL.w_head_did_b, DL.w_head_times, DL.w_head_times_b, DL.w_head_value, DL.w_head_value_b,
  DL.q_ss, DL.q_ii, DL.q_bb, DL.q_nn, DL.q_tt, DL.q_ll, DL.q_si, DL.q_sn, DL.q_st, DL.q_sl, DL.q_is, DL.q_in, DL.q_it, DL.q_il, DL.q_ns, DL.q_ni, DL.q_nt, DL.q_nl, DL.q_ts, DL.q_ti, DL.q_tn, DL.q_tl, DL.q_ls, DL.q_li, DL.q_ln, DL.q_lt, DL.qs_nil, DL.qs_cons, DL.qs_nc, DL.qs_cn, DL.p_t16, DL.p_l16, DL.p_t15, DL.p_l15, DL.p_t14, DL.p_l14, DL.p_t13, DL.p_l13, DL.p_t12, DL.p_l12, DL.p_s, DL.p_i, DL.p_b, DL.p_n, DL.ps_nil, DL.ps_cons, DL.t_b, DL.t_i, DL.t_l, DL.t_t, DL.t_n, DL.n_n, DL.n_i, DL.n_s, DL.n_t, DL.n_l, DL.n_b, DL.f_s, DL.f_i,
  Bool.false_and, Bool.and_false, DL.z0, DL.z1, DL.z2, DL.z3, DL.z4, DL.z5, DL.z6, DL.z12,
  DL.startD, DL.sFrz, DL.sApp, DL.yesD, DL.lcTurn, DL.wipeE, DL.at0, DL.at1, DL.at2, DL.at3, DL.at4, List.map_cons, List.map_nil, List.replicate_succ, List.replicate_zero, List.length_cons, List.length_nil, List.cons_append, List.nil_append, List.set_cons_zero, List.set_cons_succ, List.getElem?_cons_zero, List.getElem?_cons_succ, Option.some.injEq, exists_eq_left, exists_eq_left', exists_eq', exists_eq, true_and, and_true, decide_eq_true_eq, if_true, if_false, Bool.false_eq_true, reduceIte, Nat.reduceAdd, Nat.reduceSub, DL.D.bl.injEq, DL.D.int.injEq, DL.D.str.injEq, DL.D.tup.injEq, DL.D.lst.injEq, DL.D.ptr.injEq, Bool.not_true, Bool.not_false, beq_self_eq_true, List.all_cons, List.all_nil, List.any_cons, List.any_nil, Bool.and_true, Bool.true_and, Bool.or_false, Bool.false_or, Bool.or_true, Bool.true_or, Bool.false_xor, Bool.true_xor, beq_iff_eq, Bool.not_eq_true, Int.reduceEq, Int.reduceBEq, and_self])

namespace K41
open PySem L2 DL
def okSame : Nat → D → Prop
  | _, .int _ => True
  | _, .str _ => True
  | n + 1, .lst ds => ds.length ≤ 1000 ∧ ∀ d ∈ ds, okSame n d
  | n + 1, .tup ds => ds.length ≤ 1000 ∧ ∀ d ∈ ds, okSame n d
  | _, _ => False
def C_same (n : Nat) : CT := fun ds μ Q => match ds with
  | [x, y] => x = y ∧ okSame n y ∧ Q (.bl true) μ
  | _ => False
section
variable {P : Program} {w : World} {K : PySem.W.Frag} {mg : Str → Option Value} {base : Heap}
theorem same_step (T : Tx K mg) (n : Nat) (ih : FnOk P w K mg base CX0 (n + 1) T.a__law_same T.d__law_same ["actual", "due"] (spD K (C_same n))) : FnOk P w K mg base CX0 (n + 2) T.a__law_same T.d__law_same ["actual", "due"] (spD K (C_same (n + 1))) :=
  DL.Fun.okD (k := n + 1) (N := ["actual", "due", "k"]) T.F__law_same sc__law_same (fun cdv A outer s H E hr => 
      (dss_cons (ds_if (dt_tru (de_B call_isiD cd_isi (by rfl) T.b_isinstance (by decide +kernel) (da_cons (dv 1) (da_cons (de_tup (da_cons (de_ty (n := "list") (by rfl) T.b_list (by decide +kernel)) (da_cons (de_ty (n := "tuple") (by rfl) T.b_tuple (by decide +kernel)) da_nil))) da_nil)))) 
      (dss_cons (ds_if (dw_pt (dw_or (dt_cmp (op_neD hr.units) od_ne (de_B call_isiD cd_isi (by rfl) T.b_isinstance (by decide +kernel) (da_cons (dv 1) (da_cons (de_ty (n := "list") (by rfl) T.b_list (by decide +kernel)) da_nil))) (de_B call_isiD cd_isi (by rfl) T.b_isinstance (by decide +kernel) (da_cons (dv 0) (da_cons (de_ty (n := "list") (by rfl) T.b_list (by decide +kernel)) da_nil))) (nomark _)) (dw_or1 (dt_cmp (op_neD hr.units) od_ne (de_B call_isiD cd_isi (by rfl) T.b_isinstance (by decide +kernel) (da_cons (dv 1) (da_cons (de_ty (n := "tuple") (by rfl) T.b_tuple (by decide +kernel)) da_nil))) (de_B call_isiD cd_isi (by rfl) T.b_isinstance (by decide +kernel) (da_cons (dv 0) (da_cons (de_ty (n := "tuple") (by rfl) T.b_tuple (by decide +kernel)) da_nil))) (nomark _))))) 
      (dss_one (ds_ret de_bl)) dss_nil) 
      (dss_cons (ds_if (dt_cmp (op_neD hr.units) od_ne (de_B L2.call_len cd_len (by rfl) T.b_len (by decide +kernel) (da_cons (dv 0) da_nil)) (de_B L2.call_len cd_len (by rfl) T.b_len (by decide +kernel) (da_cons (dv 1) da_nil)) (nomark _)) 
      (dss_one (ds_ret de_bl)) dss_nil) 
      (dss_one (ds_ret (de_B (cr_all rfl) cd_all (by rfl) T.b_all (by decide +kernel) (da_cons (de_lc [("k", 2)] rfl sc__law_same.nd (di_rg1 (by rfl) T.b_range (da_cons (de_B L2.call_len cd_len (by rfl) T.b_len (by decide +kernel) (da_cons (dv 1) da_nil)) da_nil)) (blkOk_by (sc := (defScope s__law_same)) (own := [("k", 2)]) (N := ["actual", "due", "k"]) (by decide +kernel)) (fun _ _ _ _ _ => (dg_name 2 sc__law_same.nd)) (fun _ _ _ _ _ => dts_nil) (fun _ _ _ _ _ => (de_call ih hr (by rfl) T.m__law_same T.k__law_same T.v__law_same pass0 (da_cons (de_ix ix_seq od_ix (dv 0) (dv 2) (fun _ _ => rfl)) (da_cons (de_ix ix_seq od_ix (dv 1) (dv 2) (fun _ _ => rfl)) da_nil))))) da_nil)))))) dss_nil) 
      (dss_cons (ds_if (dt_cmp op_isN od_isN (dv 1) de_non (nomark _)) 
      (dss_one (ds_ret (de_cmp op_isN od_isN (dv 0) de_non (nomark _)))) dss_nil) 
      (dss_cons (ds_if (dt_cmp (op_neD hr.units) od_ne (de_B call_isiD cd_isi (by rfl) T.b_isinstance (by decide +kernel) (da_cons (dv 1) (da_cons (de_ty (n := "bool") (by rfl) T.b_bool (by decide +kernel)) da_nil))) (de_B call_isiD cd_isi (by rfl) T.b_isinstance (by decide +kernel) (da_cons (dv 0) (da_cons (de_ty (n := "bool") (by rfl) T.b_bool (by decide +kernel)) da_nil))) (nomark _)) 
      (dss_one (ds_ret de_bl)) dss_nil) 
      (dss_cons (ds_if (dt_tru (de_B call_isiD cd_isi (by rfl) T.b_isinstance (by decide +kernel) (da_cons (dv 1) (da_cons (de_ty (n := "str") (by rfl) T.b_str (by decide +kernel)) da_nil)))) 
      (dss_one (ds_ret (de_and (de_B call_isiD cd_isi (by rfl) T.b_isinstance (by decide +kernel) (da_cons (dv 0) (da_cons (de_ty (n := "str") (by rfl) T.b_str (by decide +kernel)) da_nil))) (de_one (de_cmp (op_eqD hr.units) od_eq (dv 0) (dv 1) (nomark _)))))) dss_nil) 
      (dss_one (ds_ret (de_and (de_B call_isiD cd_isi (by rfl) T.b_isinstance (by decide +kernel) (da_cons (dv 0) (da_cons (de_ty (n := "int") (by rfl) T.b_int (by decide +kernel)) da_nil))) (de_one (de_cmp (op_eqD hr.units) od_eq (dv 0) (dv 1) (nomark _)))))))))))
    (by intro ds μ Q h; unfold C_same at h; split at h <;> first | rfl | exact h.elim) (by
  intro ds μ Q h
  unfold C_same at h
  split at h
  · rename_i ds' x y
    obtain ⟨rfl, ho, hq⟩ := h
    cases x <;> (try exact ho.elim) <;> (walk_at "dl")
    · refine ⟨"int", ["list", "tuple"], rfl, rfl, by decide, ?_⟩
      rw [if_neg (by decide)]
      refine ⟨"int", rfl, by decide, "int", rfl, by decide, ?_⟩
      rw [if_neg (by decide)]
      refine ⟨"int", rfl, by decide, ?_⟩
      rw [if_neg (by decide)]
      refine ⟨"int", rfl, by decide, ?_⟩
      rw [if_pos (by decide)]
      exact hq
    · refine ⟨"str", ["list", "tuple"], rfl, rfl, by decide, ?_⟩
      rw [if_neg (by decide)]
      refine ⟨"str", rfl, by decide, "str", rfl, by decide, ?_⟩
      rw [if_neg (by decide)]
      refine ⟨"str", rfl, by decide, ?_⟩
      rw [if_pos (by decide)]
      refine ⟨"str", rfl, by decide, ?_⟩
      rw [if_pos (by decide)]
      exact hq
    · rename_i es
      obtain ⟨hl, hall⟩ := ho
      refine ⟨"tuple", ["list", "tuple"], rfl, rfl, by decide, ?_⟩
      rw [if_pos (by decide)]
      refine ⟨"tuple", rfl, by decide, "tuple", rfl, by decide, ?_⟩
      rw [if_neg (by decide)]
      refine ⟨"tuple", rfl, by decide, "tuple", rfl, by decide, ?_⟩
      rw [if_neg (by decide)]
      refine lc_mapT (List.range es.length) (fun i : Nat => D.int (0 + (i : Nat))) (fun _ => .bl true) (fun R h => ?_) (fun i hi p acc hp N hN => ?_) ?_
      · refine rg1 (i := es.length) ⟨by omega, by omega⟩ (fun R h => ?_) R (by rw [Int.toNat_natCast]; exact h)
        (walk_at "dl")
        exact h
      · have hi' := List.mem_range.mp hi
        have e0 : (0 + (i : Int)).toNat = i := by omega
        (walk_at "dl")
        have ha : atI es (0 + (i : Int)) = some (es.getD i .non) := by rw [atG .non (by omega) (by omega), e0]
        have hm : es.getD i .non ∈ es := by rw [List.getD_eq_getElem?_getD, List.getElem?_eq_getElem (by omega)]; exact List.getElem_mem _
        refine ⟨_, ha, _, ha, rfl, hall _ hm, hN _ rfl⟩
      · (walk_at "dl")
        refine ⟨_, bls_map (fun _ => true) _, ?_⟩
        have ea : ((List.range es.length).map fun _ => true).all id = true := by rw [List.all_eq_true]; intro b hb; obtain ⟨_, _, rfl⟩ := List.mem_map.mp hb; rfl
        rw [ea]
        exact hq
    · rename_i es
      obtain ⟨hl, hall⟩ := ho
      refine ⟨"list", ["list", "tuple"], rfl, rfl, by decide, ?_⟩
      rw [if_pos (by decide)]
      refine ⟨"list", rfl, by decide, "list", rfl, by decide, ?_⟩
      rw [if_neg (by decide)]
      refine ⟨"list", rfl, by decide, "list", rfl, by decide, ?_⟩
      rw [if_neg (by decide)]
      refine lc_mapT (List.range es.length) (fun i : Nat => D.int (0 + (i : Nat))) (fun _ => .bl true) (fun R h => ?_) (fun i hi p acc hp N hN => ?_) ?_
      · refine rg1 (i := es.length) ⟨by omega, by omega⟩ (fun R h => ?_) R (by rw [Int.toNat_natCast]; exact h)
        (walk_at "dl")
        exact h
      · have hi' := List.mem_range.mp hi
        have e0 : (0 + (i : Int)).toNat = i := by omega
        (walk_at "dl")
        have ha : atI es (0 + (i : Int)) = some (es.getD i .non) := by rw [atG .non (by omega) (by omega), e0]
        have hm : es.getD i .non ∈ es := by rw [List.getD_eq_getElem?_getD, List.getElem?_eq_getElem (by omega)]; exact List.getElem_mem _
        refine ⟨_, ha, _, ha, rfl, hall _ hm, hN _ rfl⟩
      · (walk_at "dl")
        refine ⟨_, bls_map (fun _ => true) _, ?_⟩
        have ea : ((List.range es.length).map fun _ => true).all id = true := by rw [List.all_eq_true]; intro b hb; obtain ⟨_, _, rfl⟩ := List.mem_map.mp hb; rfl
        rw [ea]
        exact hq
  · exact h.elim)
theorem same_zero (T : Tx K mg) : FnOk P w K mg base CX0 1 T.a__law_same T.d__law_same ["actual", "due"] (spD K (C_same 0)) :=
  DL.Fun.okD (k := 0) (N := ["actual", "due", "k"]) T.F__law_same sc__law_same (fun cdv A outer s H E hr => 
      (dss_cons (ds_if (dt_tru (de_B call_isiD cd_isi (by rfl) T.b_isinstance (by decide +kernel) (da_cons (dv 1) (da_cons (de_tup (da_cons (de_ty (n := "list") (by rfl) T.b_list (by decide +kernel)) (da_cons (de_ty (n := "tuple") (by rfl) T.b_tuple (by decide +kernel)) da_nil))) da_nil)))) dss_never dss_nil) 
      (dss_cons (ds_if (dt_cmp op_isN od_isN (dv 1) de_non (nomark _)) 
      (dss_one (ds_ret (de_cmp op_isN od_isN (dv 0) de_non (nomark _)))) dss_nil) 
      (dss_cons (ds_if (dt_cmp (op_neD hr.units) od_ne (de_B call_isiD cd_isi (by rfl) T.b_isinstance (by decide +kernel) (da_cons (dv 1) (da_cons (de_ty (n := "bool") (by rfl) T.b_bool (by decide +kernel)) da_nil))) (de_B call_isiD cd_isi (by rfl) T.b_isinstance (by decide +kernel) (da_cons (dv 0) (da_cons (de_ty (n := "bool") (by rfl) T.b_bool (by decide +kernel)) da_nil))) (nomark _)) 
      (dss_one (ds_ret de_bl)) dss_nil) 
      (dss_cons (ds_if (dt_tru (de_B call_isiD cd_isi (by rfl) T.b_isinstance (by decide +kernel) (da_cons (dv 1) (da_cons (de_ty (n := "str") (by rfl) T.b_str (by decide +kernel)) da_nil)))) 
      (dss_one (ds_ret (de_and (de_B call_isiD cd_isi (by rfl) T.b_isinstance (by decide +kernel) (da_cons (dv 0) (da_cons (de_ty (n := "str") (by rfl) T.b_str (by decide +kernel)) da_nil))) (de_one (de_cmp (op_eqD hr.units) od_eq (dv 0) (dv 1) (nomark _)))))) dss_nil) 
      (dss_one (ds_ret (de_and (de_B call_isiD cd_isi (by rfl) T.b_isinstance (by decide +kernel) (da_cons (dv 0) (da_cons (de_ty (n := "int") (by rfl) T.b_int (by decide +kernel)) da_nil))) (de_one (de_cmp (op_eqD hr.units) od_eq (dv 0) (dv 1) (nomark _)))))))))))
    (by intro ds μ Q h; unfold C_same at h; split at h <;> first | rfl | exact h.elim) (by
  intro ds μ Q h
  unfold C_same at h
  split at h
  · rename_i ds' x y
    obtain ⟨rfl, ho, hq⟩ := h
    cases x <;> (try exact ho.elim) <;> (walk_at "dl")
    · refine ⟨"int", ["list", "tuple"], rfl, rfl, by decide, ?_⟩
      rw [if_neg (by decide)]
      refine ⟨"int", rfl, by decide, "int", rfl, by decide, ?_⟩
      rw [if_neg (by decide)]
      refine ⟨"int", rfl, by decide, ?_⟩
      rw [if_neg (by decide)]
      refine ⟨"int", rfl, by decide, ?_⟩
      rw [if_pos (by decide)]
      exact hq
    · refine ⟨"str", ["list", "tuple"], rfl, rfl, by decide, ?_⟩
      rw [if_neg (by decide)]
      refine ⟨"str", rfl, by decide, "str", rfl, by decide, ?_⟩
      rw [if_neg (by decide)]
      refine ⟨"str", rfl, by decide, ?_⟩
      rw [if_pos (by decide)]
      refine ⟨"str", rfl, by decide, ?_⟩
      rw [if_pos (by decide)]
      exact hq
  · exact h.elim)
theorem same_n (T : Tx K mg) : ∀ n, FnOk P w K mg base CX0 (n + 1) T.a__law_same T.d__law_same ["actual", "due"] (spD K (C_same n))
  | 0 => same_zero T
  | n + 1 => same_step T n (same_n T n)
def C__law_same : CT := C_same 4
theorem ok__law_same (T : Tx K mg) : FnOk P w K mg base CX0 6 T.a__law_same T.d__law_same ["actual", "due"] (spD K C__law_same) := (same_n T 4).mono (by decide)
end
end K41
end

-- part B3
section
namespace K41
open PySem L2 DL PySem.NumText
theorem tw_app {c : Nat} : ∀ {x l : List Nat}, c ∉ x → (l = [] ∨ ∃ r, l = c :: r) → (x ++ l).takeWhile (· != c) = x ∧ (x ++ l).dropWhile (· != c) = l
  | [], l, _, h => by
    rcases h with rfl | ⟨r, rfl⟩
    · exact ⟨rfl, rfl⟩
    · simp
  | a :: x, l, hx, h => by
    have ha : (a != c) = true := by simp; intro e; exact hx (by simp [e])
    obtain ⟨h1, h2⟩ := tw_app (x := x) (l := l) (fun hm => hx (by simp [hm])) h
    rw [List.cons_append, List.takeWhile_cons, List.dropWhile_cons, if_pos ha, if_pos ha, h1, h2]
    exact ⟨rfl, rfl⟩
theorem join_l (c : Nat) (x : Str) (l : List Str) : ∃ t : List Nat, (Str.join ⟨#[c]⟩ (x :: l)).cps.toList = x.cps.toList ++ t ∧ (l = [] → t = []) ∧ (l ≠ [] → t = c :: (Str.join ⟨#[c]⟩ l).cps.toList) := by
  cases l with
  | nil => exact ⟨[], by rw [j1, List.append_nil], fun _ => rfl, fun h => absurd rfl h⟩
  | cons y l => exact ⟨c :: (Str.join ⟨#[c]⟩ (y :: l)).cps.toList, by rw [j2, app_l, app_l, List.append_assoc]; rfl, (fun h => absurd h (by simp)), fun _ => rfl⟩
theorem join_inj (c : Nat) : ∀ (a b : List Str), a ≠ [] → b ≠ [] → (∀ w ∈ a, c ∉ w.cps.toList) → (∀ w ∈ b, c ∉ w.cps.toList) → Str.join ⟨#[c]⟩ a = Str.join ⟨#[c]⟩ b → a = b
  | [], _, h, _, _, _, _ => absurd rfl h
  | _, [], _, h, _, _, _ => absurd rfl h
  | x :: a, y :: b, _, _, ha, hb, e => by
    obtain ⟨s, s1, s2, s3⟩ := join_l c x a
    obtain ⟨t, t1, t2, t3⟩ := join_l c y b
    have e1 : x.cps.toList ++ s = y.cps.toList ++ t := by rw [← s1, ← t1, e]
    have hs : s = [] ∨ ∃ r, s = c :: r := by by_cases h : a = []; exact Or.inl (s2 h); exact Or.inr ⟨_, s3 h⟩
    have ht : t = [] ∨ ∃ r, t = c :: r := by by_cases h : b = []; exact Or.inl (t2 h); exact Or.inr ⟨_, t3 h⟩
    have p1 := tw_app (ha x (by simp)) hs
    have p2 := tw_app (hb y (by simp)) ht
    rw [e1] at p1
    have exy : x = y := str_ext (p1.1.symm.trans p2.1)
    have est : s = t := p1.2.symm.trans p2.2
    subst exy
    by_cases h : a = []
    · have h2 := s2 h
      by_cases h3 : b = []
      · rw [h, h3]
      · have := t3 h3; rw [← est, h2] at this; cases this
    · have h2 := s3 h
      by_cases h3 : b = []
      · have := t2 h3; rw [← est, h2] at this; cases this
      · have h4 := t3 h3
        rw [← est, h2] at h4
        have h5 : Str.join ⟨#[c]⟩ a = Str.join ⟨#[c]⟩ b := str_ext (List.cons.inj h4).2
        rw [join_inj c a b h h3 (fun w hw => ha w (by simp [hw])) (fun w hw => hb w (by simp [hw])) h5]
theorem split_words {c : Nat} {ws : List Str} (hne : ws ≠ []) (h : ∀ w ∈ ws, c ∉ w.cps.toList) : Txt.split (Str.join ⟨#[c]⟩ ws) ⟨#[c]⟩ = ws := by
  have h1 := StrLaws.join_split (Str.join ⟨#[c]⟩ ws) ⟨#[c]⟩
  have h2 := StrLaws.split_free (Str.join ⟨#[c]⟩ ws) c
  refine join_inj c _ _ ?_ hne h2 h h1
  intro h0
  have hw := PyProof.Rows.split_len (Str.join ⟨#[c]⟩ ws) c
  rw [h0] at hw
  simp only [List.length_nil] at hw
  have hc : ∀ l : List Nat, 0 ≤ PyProof.Rows.cnt c l := by
    intro l
    induction l with
    | nil => rw [PyProof.Rows.cnt_nil]; omega
    | cons n l ih => rw [PyProof.Rows.cnt_cons]; split <;> omega
  have := hc (Str.join ⟨#[c]⟩ ws).cps.toList
  omega
end K41
end

-- part B4
section
namespace K41
open PySem L2 DL PySem.NumText
def sg (s : Str) : List Nat := s.cps.toList
def wT (s : Str) : TT := .w (sg s)
/-- a row of words that reads as a piece: numbers in any dress, keys in any order and more than once -/
def Read : Pc → List TT → Prop
  | .wrote v ks, xs => ∃ t ws, xs = wT "at" :: .n t :: wT "wrote" :: ws.map wT ∧ NumT t v ∧ ws ≠ [] ∧ ws.length < 64 ∧ ∀ k, k ∈ ks ↔ k ∈ ws
  | .among v ks, xs => ∃ t ws, xs = wT "at" :: .n t :: wT "among" :: ws.map wT ∧ NumT t v ∧ ws ≠ [] ∧ ws.length < 64 ∧ ∀ k, k ∈ ks ↔ k ∈ ws
  | .many v n, xs => ∃ t u, xs = [wT "at", .n t, wT "many", .n u] ∧ NumT t v ∧ NumT u n
  | .did v k, xs => ∃ t, xs = [wT "at", .n t, wT "did", wT k] ∧ NumT t v
  | .times k v n, xs => ∃ t u, xs = [wT "by", .n t, wT "times", wT k, .n u] ∧ NumT t v ∧ NumT u n
  | .value k n x, xs => ∃ t u, xs = [wT "write", .n t, wT "of", wT k, .n u] ∧ NumT t n ∧ NumT u x
  | .head v, xs => ∃ t, xs = [wT "head", .n t] ∧ NumT t v
theorem same_cons {tks : List Tk} {x : TT} {xs : List TT} (h : Same tks (x :: xs)) : ∃ t r, tks = t :: r ∧ t.k = (x.tk 0).k ∧ t.t = x.t ∧ Same r xs := by
  unfold Same at h
  cases tks with
  | nil => simp at h
  | cons t r =>
    rw [List.map_cons, List.map_cons] at h
    injection h with h1 h2
    injection h1 with h3 h4
    exact ⟨t, r, rfl, h3, h4, h2⟩
theorem same_nil {tks : List Tk} (h : Same tks []) : tks = [] := by unfold Same at h; simpa using h
theorem tS_of {t : Tk} {s : Str} (h : t.t = sg s) : tS t = s := by unfold tS; rw [h]; exact str_ext rfl
theorem w_of {t : Tk} {s : Str} (h1 : t.k = ((wT s).tk 0).k) (h2 : t.t = (wT s).t) : isW s t := ⟨h1, tS_of h2⟩
theorem n_of {t : Tk} {w : List Nat} {n lo hi : Int} (h1 : t.k = ((TT.n w).tk 0).k) (h2 : t.t = (TT.n w).t) (hn : NumT w n) (hl : lo ≤ n) (hh : n ≤ hi) : isN n lo hi t := ⟨h1, by rw [show t.t = w from h2]; exact hn, hl, hh⟩
theorem kk_of {t : Tk} {s : Str} (h1 : t.k = ((wT s).tk 0).k) (h2 : t.t = (wT s).t) (hk : okKey s) : isK s t := ⟨h1, by rw [show t.t = sg s from h2]; unfold sg; rw [Array.length_toList]; exact hk.2.2, tS_of h2⟩
theorem ks_of : ∀ {r : List Tk} {ws : List Str}, Same r (ws.map wT) → (∀ k ∈ ws, okKey k) → r.length = ws.length ∧ (∀ w ∈ r, isKey w = true) ∧ r.map tS = ws
  | r, [], h, _ => by rw [same_nil h]; simp
  | r, k :: ws, h, hk => by
    obtain ⟨t, r', rfl, h1, h2, h3⟩ := same_cons h
    obtain ⟨i1, i2, i3⟩ := ks_of h3 fun j hj => hk j (by simp [hj])
    have hkk := kk_of h1 h2 (hk k (by simp))
    refine ⟨by simp [i1], fun w hw => ?_, by rw [List.map_cons, i3, hkk.2.2]⟩
    rcases List.mem_cons.mp hw with e | hw
    · subst e; unfold isKey; rw [hkk.1, decide_eq_true hkk.2.1]; rfl
    · exact i2 w hw
theorem read_tok {q : Pc} {xs : List TT} {tks : List Tk} (ho : okP q) (hr : Read q xs) (hs : Same tks xs) : PTok q tks := by
  cases q with
  | wrote v ks =>
    obtain ⟨t, ws, rfl, hn, hne, hl, hm⟩ := hr
    obtain ⟨a, r, rfl, a1, a2, hs⟩ := same_cons hs
    obtain ⟨b, r, rfl, b1, b2, hs⟩ := same_cons hs
    obtain ⟨c, r, rfl, c1, c2, hs⟩ := same_cons hs
    obtain ⟨l1, l2, l3⟩ := ks_of hs fun k hk => ho.2.2.2.2 k ((hm k).mpr hk)
    refine ⟨a, b, c, r, rfl, w_of a1 a2, n_of b1 b2 hn ho.1.1 ho.1.2, w_of c1 c2, ?_, by omega, l2, ho.2.2.2.1, fun k => by rw [l3]; exact hm k⟩
    intro h; subst h; exact hne (List.length_eq_zero_iff.mp l1.symm)
  | among v ks =>
    obtain ⟨t, ws, rfl, hn, hne, hl, hm⟩ := hr
    obtain ⟨a, r, rfl, a1, a2, hs⟩ := same_cons hs
    obtain ⟨b, r, rfl, b1, b2, hs⟩ := same_cons hs
    obtain ⟨c, r, rfl, c1, c2, hs⟩ := same_cons hs
    obtain ⟨l1, l2, l3⟩ := ks_of hs fun k hk => ho.2.2.2.2 k ((hm k).mpr hk)
    refine ⟨a, b, c, r, rfl, w_of a1 a2, n_of b1 b2 hn ho.1.1 ho.1.2, w_of c1 c2, ?_, by omega, l2, ho.2.2.2.1, fun k => by rw [l3]; exact hm k⟩
    intro h; subst h; exact hne (List.length_eq_zero_iff.mp l1.symm)
  | many v n =>
    obtain ⟨t, u, rfl, hn, hn2⟩ := hr
    obtain ⟨a, r, rfl, a1, a2, hs⟩ := same_cons hs
    obtain ⟨b, r, rfl, b1, b2, hs⟩ := same_cons hs
    obtain ⟨c, r, rfl, c1, c2, hs⟩ := same_cons hs
    obtain ⟨d, r, rfl, d1, d2, hs⟩ := same_cons hs
    cases same_nil hs
    exact ⟨a, b, c, d, rfl, w_of a1 a2, n_of b1 b2 hn ho.1.1 ho.1.2, w_of c1 c2, n_of d1 d2 hn2 ho.2.1 ho.2.2⟩
  | did v k =>
    obtain ⟨t, rfl, hn⟩ := hr
    obtain ⟨a, r, rfl, a1, a2, hs⟩ := same_cons hs
    obtain ⟨b, r, rfl, b1, b2, hs⟩ := same_cons hs
    obtain ⟨c, r, rfl, c1, c2, hs⟩ := same_cons hs
    obtain ⟨d, r, rfl, d1, d2, hs⟩ := same_cons hs
    cases same_nil hs
    exact ⟨a, b, c, d, rfl, w_of a1 a2, n_of b1 b2 hn ho.1.1 ho.1.2, w_of c1 c2, kk_of d1 d2 ho.2⟩
  | times k v n =>
    obtain ⟨t, u, rfl, hn, hn2⟩ := hr
    obtain ⟨a, r, rfl, a1, a2, hs⟩ := same_cons hs
    obtain ⟨b, r, rfl, b1, b2, hs⟩ := same_cons hs
    obtain ⟨c, r, rfl, c1, c2, hs⟩ := same_cons hs
    obtain ⟨d, r, rfl, d1, d2, hs⟩ := same_cons hs
    obtain ⟨e, r, rfl, e1, e2, hs⟩ := same_cons hs
    cases same_nil hs
    exact ⟨a, b, c, d, e, rfl, w_of a1 a2, n_of b1 b2 hn ho.1.1 ho.1.2, w_of c1 c2, kk_of d1 d2 ho.2.1, n_of e1 e2 hn2 ho.2.2.1 ho.2.2.2⟩
  | value k n x =>
    obtain ⟨t, u, rfl, hn, hn2⟩ := hr
    obtain ⟨a, r, rfl, a1, a2, hs⟩ := same_cons hs
    obtain ⟨b, r, rfl, b1, b2, hs⟩ := same_cons hs
    obtain ⟨c, r, rfl, c1, c2, hs⟩ := same_cons hs
    obtain ⟨d, r, rfl, d1, d2, hs⟩ := same_cons hs
    obtain ⟨e, r, rfl, e1, e2, hs⟩ := same_cons hs
    cases same_nil hs
    exact ⟨a, b, c, d, e, rfl, w_of a1 a2, n_of b1 b2 hn ho.1.1 ho.1.2, w_of c1 c2, kk_of d1 d2 ho.2.1, n_of e1 e2 hn2 ho.2.2.1 ho.2.2.2⟩
  | head v =>
    obtain ⟨t, rfl, hn⟩ := hr
    obtain ⟨a, r, rfl, a1, a2, hs⟩ := same_cons hs
    obtain ⟨b, r, rfl, b1, b2, hs⟩ := same_cons hs
    cases same_nil hs
    exact ⟨a, b, rfl, w_of a1 a2, n_of b1 b2 hn ho.1 ho.2⟩
/-- a text that reads as a piece -/
def Reads (q : Pc) (l : List Nat) : Prop := ∃ xs, Row l xs ∧ Read q xs
theorem reads_lay {q : Pc} {l rest : List Nat} {ts : List Tk} {p : Nat} (ho : okP q) (h : Reads q l) (hc : clean rest) (hl : Lay false (p + l.length) rest ts) : ∃ tks, PTok q tks ∧ Lay false p (l ++ rest) (tks ++ ts) := by
  obtain ⟨xs, h1, h2⟩ := h
  obtain ⟨tks, h3, h4⟩ := row_lay h1 hc hl
  exact ⟨tks, read_tok ho h2 h3, h4⟩
/-- pieces' texts with ; between, blanks behind it -/
inductive News : List Pc → List Nat → Prop
  | one {q l} (ho : okP q) (h : Reads q l) : News [q] l
  | more {q l bs ns ls} (ho : okP q) (h : Reads q l) (hb : ∀ c ∈ bs, isB c = true) (r : News ns ls) : News (q :: ns) (l ++ 59 :: (bs ++ ls))
theorem news_lay {ns : List Pc} {l : List Nat} (h : News ns l) : ∀ p, ∃ ts, NTok ns ts ∧ Lay false p l ts := by
  induction h with
  | @one q l ho h =>
    intro p
    obtain ⟨tks, h1, h2⟩ := reads_lay (rest := []) (p := p) ho h trivial (Lay.nil (b := false))
    rw [List.append_nil] at h2
    exact ⟨_, .one h1 rfl, h2⟩
  | @more q l bs ns ls ho h hb r ih =>
    intro p
    obtain ⟨ts, h1, h2⟩ := ih (p + l.length + 1 + bs.length)
    have h3 := bl_lay (b := false) (p := p + l.length + 1) hb h2 fun _ => Or.inl rfl
    have hcl : clean (59 :: (bs ++ ls)) := Or.inr rfl
    obtain ⟨tks, h4, h5⟩ := reads_lay (p := p) ho h hcl (sep_lay (b := false) h3)
    exact ⟨_, .more h4 rfl h1, h5⟩
theorem news_nt {ns : List Pc} {l : List Nat} (h : (ns = [] ∧ l = []) ∨ News ns l) : ∃ ts, NT ns ts ∧ Lay false 0 l ts := by
  rcases h with ⟨rfl, rfl⟩ | h
  · exact ⟨_, Or.inl ⟨rfl, _, rfl, rfl⟩, .nil⟩
  · obtain ⟨ts, h1, h2⟩ := news_lay h 0
    exact ⟨ts, Or.inr h1, h2⟩
end K41
end

-- part B5
section
namespace K41
open PySem L2 DL PySem.NumText
/-- words with one blank between -/
theorem row_join : ∀ {ws : List Str} {xs : List TT}, ws ≠ [] → xs.map TT.t = ws.map sg → (∀ x ∈ xs, TT.ok x) → Row (sg (Str.join " " ws)) xs
  | [], _, h, _, _ => absurd rfl h
  | [w], [], _, e, _ => by simp at e
  | [w], [x], _, e, ho => by
    have h1 : x.t = sg w := by simpa using e
    have := Row.tok (l := []) (ho x (by simp)) trivial .nil
    rw [List.append_nil, h1] at this
    exact this
  | [w], x :: y :: xs, _, e, _ => by simp at e
  | w :: v :: ws, [], _, e, _ => by simp at e
  | w :: v :: ws, x :: xs, _, e, ho => by
    rw [List.map_cons, List.map_cons] at e
    injection e with h1 h2
    have ih := row_join (ws := v :: ws) (xs := xs) (by simp) h2 fun y hy => ho y (by simp [hy])
    have hb := Row.bl (bs := [32]) (by simp [isB]) ih
    have hcl : clean ([32] ++ sg (Str.join " " (v :: ws))) := Or.inl rfl
    have ht := Row.tok (ho x (by simp)) hcl hb
    rw [h1] at ht
    unfold sg at ht ⊢
    rw [j2, app_l, app_l, List.append_assoc]
    exact ht
theorem ok_w {s : Str} (h : okKey s) : TT.ok (wT s) := ⟨h.1, h.2.1⟩
def ttP : Pc → List TT
  | .wrote v ks => wT "at" :: .n (sg (numS v)) :: wT "wrote" :: ks.map wT
  | .among v ks => wT "at" :: .n (sg (numS v)) :: wT "among" :: ks.map wT
  | .many v n => [wT "at", .n (sg (numS v)), wT "many", .n (sg (numS n))]
  | .did v k => [wT "at", .n (sg (numS v)), wT "did", wT k]
  | .times k v n => [wT "by", .n (sg (numS v)), wT "times", wT k, .n (sg (numS n))]
  | .value k n x => [wT "write", .n (sg (numS n)), wT "of", wT k, .n (sg (numS x))]
  | .head v => [wT "head", .n (sg (numS v))]
theorem tt_words (q : Pc) : (ttP q).map TT.t = (wordsP q).map sg := by
  cases q <;> simp [ttP, wordsP, TT.t, wT, List.map_map, Function.comp_def]
theorem okn {i : Int} (h : -1000000 ≤ i ∧ i ≤ 1000000) : TT.ok (.n (sg (numS i))) := (num_T h).S
theorem okk (s : Str) (h : okKey s := by decide +kernel) : TT.ok (wT s) := ok_w h
theorem tt_ok {q : Pc} (ho : okP q) : ∀ x ∈ ttP q, TT.ok x := by
  cases q <;> unfold okP at ho <;> unfold ttP <;> simp only [List.mem_cons, List.not_mem_nil, or_false]
  · rintro x (rfl | rfl | rfl | hx)
    · exact okk _
    · exact okn ⟨by omega, by omega⟩
    · exact okk _
    · obtain ⟨k, hk, rfl⟩ := List.mem_map.mp hx; exact okk k (ho.2.2.2.2 k hk)
  · rintro x (rfl | rfl | rfl | rfl)
    · exact okk _
    · exact okn ⟨by omega, by omega⟩
    · exact okk _
    · exact okn ⟨by omega, by omega⟩
  · rintro x (rfl | rfl | rfl | hx)
    · exact okk _
    · exact okn ⟨by omega, by omega⟩
    · exact okk _
    · obtain ⟨k, hk, rfl⟩ := List.mem_map.mp hx; exact okk k (ho.2.2.2.2 k hk)
  · rintro x (rfl | rfl | rfl | rfl)
    · exact okk _
    · exact okn ⟨by omega, by omega⟩
    · exact okk _
    · exact okk _ ho.2
  · rintro x (rfl | rfl | rfl | rfl | rfl)
    · exact okk _
    · exact okn ⟨by omega, by omega⟩
    · exact okk _
    · exact okk _ ho.2.1
    · exact okn ⟨by omega, by omega⟩
  · rintro x (rfl | rfl | rfl | rfl | rfl)
    · exact okk _
    · exact okn ⟨by omega, by omega⟩
    · exact okk _
    · exact okk _ ho.2.1
    · exact okn ⟨by omega, by omega⟩
  · rintro x (rfl | rfl)
    · exact okk _
    · exact okn ⟨by omega, by omega⟩
theorem tt_read {q : Pc} (ho : okP q) : Read q (ttP q) := by
  cases q <;> unfold okP at ho
  · exact ⟨_, _, rfl, num_T ⟨by omega, by omega⟩, ho.2.1, by have := ho.2.2.1; omega, fun k => Iff.rfl⟩
  · exact ⟨_, _, rfl, num_T ⟨by omega, by omega⟩, num_T ⟨by omega, by omega⟩⟩
  · exact ⟨_, _, rfl, num_T ⟨by omega, by omega⟩, ho.2.1, by have := ho.2.2.1; omega, fun k => Iff.rfl⟩
  · exact ⟨_, rfl, num_T ⟨by omega, by omega⟩⟩
  · exact ⟨_, _, rfl, num_T ⟨by omega, by omega⟩, num_T ⟨by omega, by omega⟩⟩
  · exact ⟨_, _, rfl, num_T ⟨by omega, by omega⟩, num_T ⟨by omega, by omega⟩⟩
  · exact ⟨_, rfl, num_T ⟨by omega, by omega⟩⟩
theorem words_ne (q : Pc) : wordsP q ≠ [] := by cases q <;> simp [wordsP]
theorem print_reads {q : Pc} (ho : okP q) : Reads q (sg (printP q)) := ⟨ttP q, row_join (words_ne q) (tt_words q) (tt_ok ho), tt_read ho⟩
/-- texts that read as pieces, joined -/
theorem news_join {sep : Str} (bs : List Nat) (hsep : sg sep = 59 :: bs) (hb : ∀ c ∈ bs, isB c = true) : ∀ (ns : List Pc) (ts : List Str), ns.length = ts.length → (∀ (i : Nat) (q : Pc) (t : Str), ns[i]? = some q → ts[i]? = some t → okP q ∧ Reads q (sg t)) → (ns = [] ∧ sg (Str.join sep ts) = []) ∨ News ns (sg (Str.join sep ts))
  | [], [], _, _ => Or.inl ⟨rfl, rfl⟩
  | [], _ :: _, h, _ => by simp at h
  | _ :: _, [], h, _ => by simp at h
  | [q], [t], _, h => by
    obtain ⟨h1, h2⟩ := h 0 q t rfl rfl
    exact Or.inr (.one h1 h2)
  | [q], _ :: _ :: _, h, _ => by simp at h
  | _ :: _ :: _, [t], h, _ => by simp at h
  | q :: r :: ns, t :: u :: ts, hl, h => by
    obtain ⟨h1, h2⟩ := h 0 q t rfl rfl
    rcases news_join bs hsep hb (r :: ns) (u :: ts) (by simpa using hl) fun i q t a b => h (i + 1) q t (by simpa using a) (by simpa using b) with ⟨e, _⟩ | ih
    · cases e
    · refine Or.inr ?_
      have h3 := News.more h1 h2 hb ih
      unfold sg at h3 hsep ⊢
      rw [j2, app_l, app_l, hsep, List.append_assoc]
      exact h3
end K41
end

-- part B6
section
local macro_rules | `(tactic| walk_at "dl") => `(tactic| simp only [DL.sRet, DL.dJoined, DL.dJs, DL.dFmt, DL.dFld, DL.dMeth, DL.dMake, DL.sFld, DL.sFldI, DL.sSeq, DL.sSet, DL.sIf, DL.sNext, DL.sNever, DL.sDrop, DL.sAsg, DL.sRetN, DL.dVar, DL.dC, DL.dOp, DL.dTest, DL.dAnd, DL.dOr, DL.dNot, DL.dTru, DL.dAndV, DL.dOrV, DL.dNotV, DL.dIf, DL.aNil, DL.aCons, DL.dTup, DL.dLst, DL.dLstM, DL.dCall, DL.dFrz, DL.dB, DL.dNeg, DL.dSl, DL.oNone, DL.oSome, DL.dChn, DL.gN, DL.gT, DL.setAll,
  DL.ix_l, DL.ix_t, DL.ix_s, DL.ix_p, DL.add_i, DL.add_s, DL.add_l, DL.add_t, DL.mul_i, DL.mul_b, DL.sub_i, DL.fdiv_i, DL.mod_i, DL.pow_i, DL.shl_i, DL.shr_i, DL.and_i, DL.lt_i, DL.le_i, DL.gt_i, DL.ge_i, DL.le_s, DL.in_t, DL.in_l, DL.in_s, DL.len_l, DL.len_t, DL.len_s, DL.len_p, DL.list_l, DL.list_t, DL.list_s, DL.list_p, DL.tuple_l, DL.tuple_t, DL.int_i, DL.int_b, DL.abs_i, DL.max_i, DL.min_i, DL.all_l, DL.any_l, DL.isi_1, DL.isi_n, DL.sl_l, DL.sl_t, DL.sl_s, DL.neg_i, DL.isN_i, DL.notN_i, DL.eq_x, DL.ne_x,
  DL.w_wrote_many, DL.w_wrote_many_b, DL.w_wrote_among, DL.w_wrote_among_b, DL.w_wrote_did, DL.w_wrote_did_b, DL.w_wrote_times, DL.w_wrote_times_b, DL.w_wrote_value, DL.w_wrote_value_b, DL.w_wrote_head, DL.w_wrote_head_b, DL.w_many_wrote, DL.w_many_wrote_b, DL.w_many_among, DL.w_many_among_b, DL.w_many_did, DL.w_many_did_b, DL.w_many_times, DL.w_many_times_b, DL.w_many_value, DL.w_many_value_b, DL.w_many_head, DL.w_many_head_b, DL.w_among_wrote, DL.w_among_wrote_b, DL.w_among_many, DL.w_among_many_b, DL.w_among_did, DL.w_among_did_b, DL.w_among_times, DL.w_among_times_b, DL.w_among_value, DL.w_among_value_b, DL.w_among_head, DL.w_among_head_b, DL.w_did_wrote, DL.w_did_wrote_b, DL.w_did_many, DL.w_did_many_b, DL.w_did_among, DL.w_did_among_b, DL.w_did_times, DL.w_did_times_b, DL.w_did_value, DL.w_did_value_b, DL.w_did_head, DL.w_did_head_b, DL.w_times_wrote, DL.w_times_wrote_b, DL.w_times_many, DL.w_times_many_b, DL.w_times_among, DL.w_times_among_b, DL.w_times_did, DL.w_times_did_b, DL.w_times_value, DL.w_times_value_b, DL.w_times_head, DL.w_times_head_b, DL.w_value_wrote, DL.w_value_wrote_b, DL.w_value_many, DL.w_value_many_b, DL.w_value_among, DL.w_value_among_b, DL.w_value_did, DL.w_value_did_b, DL.w_value_times, DL.w_value_times_b, DL.w_value_head, DL.w_value_head_b, DL.w_head_wrote, DL.w_head_wrote_b, DL.w_head_many, DL.w_head_many_b, DL.w_head_among, DL.w_head_among_b, DL.w_head_did, DL.w_head_did_b, DL.w_head_times, DL.w_head_times_b, DL.w_head_value, DL.w_head_value_b,
  DL.q_ss, DL.q_ii, DL.q_bb, DL.q_nn, DL.q_tt, DL.q_ll, DL.q_si, DL.q_sn, DL.q_st, DL.q_sl, DL.q_is, DL.q_in, DL.q_it, DL.q_il, DL.q_ns, DL.q_ni, DL.q_nt, DL.q_nl, DL.q_ts, DL.q_ti, DL.q_tn, DL.q_tl, DL.q_ls, DL.q_li, DL.q_ln, DL.q_lt, DL.qs_nil, DL.qs_cons, DL.qs_nc, DL.qs_cn, DL.p_t16, DL.p_l16, DL.p_t15, DL.p_l15, DL.p_t14, DL.p_l14, DL.p_t13, DL.p_l13, DL.p_t12, DL.p_l12, DL.p_s, DL.p_i, DL.p_b, DL.p_n, DL.ps_nil, DL.ps_cons, DL.t_b, DL.t_i, DL.t_l, DL.t_t, DL.t_n, DL.n_n, DL.n_i, DL.n_s, DL.n_t, DL.n_l, DL.n_b, DL.f_s, DL.f_i,
  Bool.false_and, Bool.and_false, DL.z0, DL.z1, DL.z2, DL.z3, DL.z4, DL.z5, DL.z6, DL.z12,
  DL.startD, DL.sFrz, DL.sApp, DL.yesD, DL.lcTurn, DL.wipeE, DL.at0, DL.at1, DL.at2, DL.at3, DL.at4, List.map_cons, List.map_nil, List.replicate_succ, List.replicate_zero, List.length_cons, List.length_nil, List.cons_append, List.nil_append, List.set_cons_zero, List.set_cons_succ, List.getElem?_cons_zero, List.getElem?_cons_succ, Option.some.injEq, exists_eq_left, exists_eq_left', exists_eq', exists_eq, true_and, and_true, decide_eq_true_eq, if_true, if_false, Bool.false_eq_true, reduceIte, Nat.reduceAdd, Nat.reduceSub, DL.D.bl.injEq, DL.D.int.injEq, DL.D.str.injEq, DL.D.tup.injEq, DL.D.lst.injEq, DL.D.ptr.injEq, Bool.not_true, Bool.not_false, beq_self_eq_true, List.all_cons, List.all_nil, List.any_cons, List.any_nil, Bool.and_true, Bool.true_and, Bool.or_false, Bool.false_or, Bool.or_true, Bool.true_or, Bool.false_xor, Bool.true_xor, beq_iff_eq, Bool.not_eq_true, Int.reduceEq, Int.reduceBEq, and_self])

namespace K41
open PySem L2 DL PySem.NumText
def C__law_number : CT := fun ds μ Q => match ds with
  | [.ptr dr, .str t] => μ dr = some .draw ∧ ∃ i, (-1000000 ≤ i ∧ i ≤ 1000000) ∧ t = numS i ∧ ∀ t' : Str, NumT (sg t') i → Q (.str t') μ
  | _ => False
theorem num_T8 {i : Int} (h : -1000000 ≤ i ∧ i ≤ 1000000) : ∃ (neg : Bool) (ds : List Nat), sg (numS i) = (if neg = true then [45] else []) ++ ds ∧ AllDigits ds ∧ ds ≠ [] ∧ ds.length ≤ 8 ∧ i = if neg = true then -(digitsVal ds : Int) else digitsVal ds := by
  by_cases h0 : 0 ≤ i
  · obtain ⟨m, rfl⟩ := Int.eq_ofNat_of_zero_le h0
    refine ⟨false, _, nn_digits m, dig_all m, dig_ne m, dig_len (by omega), ?_⟩
    rw [if_neg (by decide), PySem.W.KIN.val_back]
  · obtain ⟨m, hm⟩ := Int.eq_ofNat_of_zero_le (a := -i - 1) (by omega)
    have e : i = -((m + 1 : Nat) : Int) := by omega
    subst e
    refine ⟨true, _, neg_digits m, dig_all _, dig_ne _, dig_len (by omega), ?_⟩
    rw [if_pos rfl, PySem.W.KIN.val_back]
theorem zeros_T {neg : Bool} {ds : List Nat} {z : Nat} {i : Int} (hd : AllDigits ds) (hne : ds ≠ []) (hl : ds.length ≤ 8) (hz : z ≤ 2) (hi : i = if neg = true then -(digitsVal ds : Int) else digitsVal ds) : NumT ((if neg = true then [45] else []) ++ (List.replicate z 48 ++ ds)) i := by
  have hdw : ∀ z, (List.replicate z 48 ++ ds).dropWhile (· == 48) = ds.dropWhile (· == 48) := by
    intro z
    induction z with
    | zero => rfl
    | succ z ih => rw [List.replicate_succ, List.cons_append, List.dropWhile_cons, if_pos (by rfl), ih]
  have hv : digitsVal (List.replicate z 48 ++ ds) = digitsVal ds := by rw [← dz, hdw, dz]
  refine ⟨neg, _, rfl, fun c hc => ?_, by simp [hne], by rw [hdw]; exact Nat.le_trans (List.dropWhile_suffix _).length_le hl, by rw [List.length_append, List.length_replicate]; omega, by rw [hv]; exact hi⟩
  rcases List.mem_append.mp hc with h | h
  · rw [List.eq_of_mem_replicate h]; omega
  · exact hd c h
theorem cut_from (s : Str) (k : Nat) (h : k ≤ s.length) : cutS s (some (k : Int)) none = ⟨(s.cps.toList.drop k).toArray⟩ := by
  have hl : s.cps.toList.length = s.length := Array.length_toList
  unfold cutS
  rw [HT.sIx_nat, HT.sIx_none, Nat.min_eq_left h, List.take_of_length_le (by rw [List.length_drop, hl]; omega)]
theorem cut_sign {sgn t : Str} {ds : List Nat} (h : sg t = sg sgn ++ ds) : cutS t (some (sgn.length : Int)) none = ⟨ds.toArray⟩ := by
  have hs : (sg sgn).length = sgn.length := Array.length_toList
  have ht : (sg t).length = t.length := Array.length_toList
  rw [cut_from t sgn.length (by rw [← ht, h, List.length_append, hs]; omega)]
  rw [show t.cps.toList = sg sgn ++ ds from h, ← hs, List.drop_left' rfl]
theorem zero_rep (z : Nat) : (⟨(List.replicate z ((Str.ofString "0").cps.getD 0 0)).toArray⟩ : Str) = ⟨(List.replicate z 48).toArray⟩ := rfl
theorem mk_len (l : List Nat) : (⟨l.toArray⟩ : Str).length = l.length := by show l.toArray.size = _; rw [List.size_toArray]
section
variable {P : Program} {w : World} {K : PySem.W.Frag} {mg : Str → Option Value} {base : Heap}
theorem ok__law_number (T : Tx K mg) : FnOk P w K mg base CX0 2 T.a__law_number T.d__law_number ["draw", "text"] (spD K C__law_number) :=
  DL.Fun.okD (N := ["draw", "text", "sign"]) T.F__law_number sc__law_number (fun cdv A outer s H E hr => 
      (dss_cons (ds_set 2 sc__law_number.nd (de_if (dt_cmp (op_eqD hr.units) od_eq (de_ix ix_seq od_ix (dv 1) de_int (fun _ _ => rfl)) (de_str) (nomark _)) (de_str) (de_str))) 
      (dss_one (ds_ret (de_op op_addD od_add (de_op op_addD od_add (dv 2) (de_op op_mulS od_mulS (de_str) (de_call (ok__law_next T) (hr.mono (by decide)) (by rfl) T.m__law_next T.k__law_next T.v__law_next pass0 (da_cons (dv 0) (da_cons de_int da_nil))))) (de_sl (dv 1) (do_some (de_B L2.call_len cd_len (by rfl) T.b_len (by decide +kernel) (da_cons (dv 2) da_nil))) do_none))))))
    (by intro ds μ Q h; unfold C__law_number at h; split at h <;> first | rfl | exact h.elim) (by
  intro ds μ Q h
  unfold C__law_number at h
  split at h
  · rename_i ds' dr t
    obtain ⟨hd, i, hi, rfl, hq⟩ := h
    obtain ⟨neg, ds, e1, e2, e3, e4, e5⟩ := num_T8 hi
    have fin : ∀ (z : Nat) (t' : Str), z ≤ 2 → sg t' = (if neg = true then [45] else []) ++ (List.replicate z 48 ++ ds) → Q (.str t') μ := fun z t' hz ht => hq t' (by rw [ht]; exact zeros_T e2 e3 e4 hz e5)
    (walk_at "dl")
    cases neg with
    | true =>
      rw [if_pos rfl] at e1
      refine ⟨45, by rw [show (numS i).cps.toList = [45] ++ ds from e1]; exact at0, ?_⟩
      rw [if_pos (by rfl)]
      refine ⟨hd, by decide, by decide, fun z z0 z1 => ?_⟩
      refine ⟨by decide +kernel, z0, by omega, sok_list (fun c hc => by rw [List.eq_of_mem_replicate hc]; decide +kernel) (by rw [List.length_replicate]; omega), ?_⟩
      rw [cut_sign (sgn := "-") (ds := ds) (by rw [e1]; rfl), zero_rep]
      (walk_at "dl")
      simp only [app_len, mk_len, List.length_replicate]
      refine ⟨sz_small (by rw [show (Str.ofString "-").length = 1 from by decide +kernel]; omega), sz_small (by rw [show (Str.ofString "-").length = 1 from by decide +kernel]; omega), ?_⟩
      refine fin z.toNat _ (by omega) ?_
      unfold sg
      rw [app_l, app_l, List.append_assoc]
      rfl
    | false =>
      rw [if_neg (by decide), List.nil_append] at e1
      cases ds with
      | nil => exact absurd rfl e3
      | cons c ds' =>
        generalize hds : c :: ds' = ds at *
        have hc := e2 c (by rw [← hds]; simp)
        refine ⟨c, by rw [show (numS i).cps.toList = ds from e1, ← hds]; exact at0, ?_⟩
        rw [if_neg (by rw [dash]; omega)]
        refine ⟨hd, by decide, by decide, fun z z0 z1 => ?_⟩
        refine ⟨by decide +kernel, z0, by omega, sok_list (fun c hc => by rw [List.eq_of_mem_replicate hc]; decide +kernel) (by rw [List.length_replicate]; omega), ?_⟩
        rw [cut_sign (sgn := "") (ds := ds) (by rw [e1]; rfl), zero_rep]
        (walk_at "dl")
        simp only [app_len, mk_len, List.length_replicate]
        refine ⟨sz_small (by rw [show (Str.ofString "").length = 0 from by decide +kernel]; omega), sz_small (by rw [show (Str.ofString "").length = 0 from by decide +kernel]; omega), ?_⟩
        refine fin z.toNat _ (by omega) ?_
        unfold sg
        rw [app_l, app_l, List.append_assoc]
        rfl
  · exact h.elim
)

end
end K41
end

-- part B7
section
local macro_rules | `(tactic| walk_at "dl") => `(tactic| simp only [DL.sRet, DL.dJoined, DL.dJs, DL.dFmt, DL.dFld, DL.dMeth, DL.dMake, DL.sFld, DL.sFldI, DL.sSeq, DL.sSet, DL.sIf, DL.sNext, DL.sNever, DL.sDrop, DL.sAsg, DL.sRetN, DL.dVar, DL.dC, DL.dOp, DL.dTest, DL.dAnd, DL.dOr, DL.dNot, DL.dTru, DL.dAndV, DL.dOrV, DL.dNotV, DL.dIf, DL.aNil, DL.aCons, DL.dTup, DL.dLst, DL.dLstM, DL.dCall, DL.dFrz, DL.dB, DL.dNeg, DL.dSl, DL.oNone, DL.oSome, DL.dChn, DL.gN, DL.gT, DL.setAll,
  DL.ix_l, DL.ix_t, DL.ix_s, DL.ix_p, DL.add_i, DL.add_s, DL.add_l, DL.add_t, DL.mul_i, DL.mul_b, DL.sub_i, DL.fdiv_i, DL.mod_i, DL.pow_i, DL.shl_i, DL.shr_i, DL.and_i, DL.lt_i, DL.le_i, DL.gt_i, DL.ge_i, DL.le_s, DL.in_t, DL.in_l, DL.in_s, DL.len_l, DL.len_t, DL.len_s, DL.len_p, DL.list_l, DL.list_t, DL.list_s, DL.list_p, DL.tuple_l, DL.tuple_t, DL.int_i, DL.int_b, DL.abs_i, DL.max_i, DL.min_i, DL.all_l, DL.any_l, DL.isi_1, DL.isi_n, DL.sl_l, DL.sl_t, DL.sl_s, DL.neg_i, DL.isN_i, DL.notN_i, DL.eq_x, DL.ne_x,
  DL.w_wrote_many, DL.w_wrote_many_b, DL.w_wrote_among, DL.w_wrote_among_b, DL.w_wrote_did, DL.w_wrote_did_b, DL.w_wrote_times, DL.w_wrote_times_b, DL.w_wrote_value, DL.w_wrote_value_b, DL.w_wrote_head, DL.w_wrote_head_b, DL.w_many_wrote, DL.w_many_wrote_b, DL.w_many_among, DL.w_many_among_b, DL.w_many_did, DL.w_many_did_b, DL.w_many_times, DL.w_many_times_b, DL.w_many_value, DL.w_many_value_b, DL.w_many_head, DL.w_many_head_b, DL.w_among_wrote, DL.w_among_wrote_b, DL.w_among_many, DL.w_among_many_b, DL.w_among_did, DL.w_among_did_b, DL.w_among_times, DL.w_among_times_b, DL.w_among_value, DL.w_among_value_b, DL.w_among_head, DL.w_among_head_b, DL.w_did_wrote, DL.w_did_wrote_b, DL.w_did_many, DL.w_did_many_b, DL.w_did_among, DL.w_did_among_b, DL.w_did_times, DL.w_did_times_b, DL.w_did_value, DL.w_did_value_b, DL.w_did_head, DL.w_did_head_b, DL.w_times_wrote, DL.w_times_wrote_b, DL.w_times_many, DL.w_times_many_b, DL.w_times_among, DL.w_times_among_b, DL.w_times_did, DL.w_times_did_b, DL.w_times_value, DL.w_times_value_b, DL.w_times_head, DL.w_times_head_b, DL.w_value_wrote, DL.w_value_wrote_b, DL.w_value_many, DL.w_value_many_b, DL.w_value_among, DL.w_value_among_b, DL.w_value_did, DL.w_value_did_b, DL.w_value_times, DL.w_value_times_b, DL.w_value_head, DL.w_value_head_b, DL.w_head_wrote, DL.w_head_wrote_b, DL.w_head_many, DL.w_head_many_b, DL.w_head_among, DL.w_head_among_b, DL.w_head_did, DL.w_head_did_b, DL.w_head_times, DL.w_head_times_b, DL.w_head_value, DL.w_head_value_b,
  DL.q_ss, DL.q_ii, DL.q_bb, DL.q_nn, DL.q_tt, DL.q_ll, DL.q_si, DL.q_sn, DL.q_st, DL.q_sl, DL.q_is, DL.q_in, DL.q_it, DL.q_il, DL.q_ns, DL.q_ni, DL.q_nt, DL.q_nl, DL.q_ts, DL.q_ti, DL.q_tn, DL.q_tl, DL.q_ls, DL.q_li, DL.q_ln, DL.q_lt, DL.qs_nil, DL.qs_cons, DL.qs_nc, DL.qs_cn, DL.p_t16, DL.p_l16, DL.p_t15, DL.p_l15, DL.p_t14, DL.p_l14, DL.p_t13, DL.p_l13, DL.p_t12, DL.p_l12, DL.p_s, DL.p_i, DL.p_b, DL.p_n, DL.ps_nil, DL.ps_cons, DL.t_b, DL.t_i, DL.t_l, DL.t_t, DL.t_n, DL.n_n, DL.n_i, DL.n_s, DL.n_t, DL.n_l, DL.n_b, DL.f_s, DL.f_i,
  Bool.false_and, Bool.and_false, DL.z0, DL.z1, DL.z2, DL.z3, DL.z4, DL.z5, DL.z6, DL.z12,
  DL.startD, DL.sFrz, DL.sApp, DL.yesD, DL.lcTurn, DL.wipeE, DL.at0, DL.at1, DL.at2, DL.at3, DL.at4, List.map_cons, List.map_nil, List.replicate_succ, List.replicate_zero, List.length_cons, List.length_nil, List.cons_append, List.nil_append, List.set_cons_zero, List.set_cons_succ, List.getElem?_cons_zero, List.getElem?_cons_succ, Option.some.injEq, exists_eq_left, exists_eq_left', exists_eq', exists_eq, true_and, and_true, decide_eq_true_eq, if_true, if_false, Bool.false_eq_true, reduceIte, Nat.reduceAdd, Nat.reduceSub, DL.D.bl.injEq, DL.D.int.injEq, DL.D.str.injEq, DL.D.tup.injEq, DL.D.lst.injEq, DL.D.ptr.injEq, Bool.not_true, Bool.not_false, beq_self_eq_true, List.all_cons, List.all_nil, List.any_cons, List.any_nil, Bool.and_true, Bool.true_and, Bool.or_false, Bool.false_or, Bool.or_true, Bool.true_or, Bool.false_xor, Bool.true_xor, beq_iff_eq, Bool.not_eq_true, Int.reduceEq, Int.reduceBEq, and_self])

namespace K41
open PySem L2 DL PySem.NumText
def C__law_noise : CT := fun ds μ Q => match ds with
  | [.ptr dr, p] => μ dr = some .draw ∧ ∃ q : Pc, p = ePc q ∧ okP q ∧ ∀ t : Str, Reads q (sg t) → t.length ≤ 1320 → (∀ c ∈ sg t, c < 128) → Q (.str t) μ
  | _ => False
/-- a word, and what it is dressed as -/
def Drs (w : Str) (x : TT) : Prop := (x = wT w ∧ okKey w) ∨ ∃ i, (-1000000 ≤ i ∧ i ≤ 1000000) ∧ w = numS i ∧ ∃ t, x = .n t ∧ NumT t i
theorem Drs.ok {w : Str} {x : TT} (h : Drs w x) : TT.ok x := by
  rcases h with ⟨rfl, h⟩ | ⟨i, _, _, t, rfl, h⟩
  · exact ok_w h
  · exact h.S
theorem num_inj {i j : Int} (hi : -1000000 ≤ i ∧ i ≤ 1000000) (hj : -1000000 ≤ j ∧ j ≤ 1000000) (h : numS i = numS j) : i = j := by
  obtain ⟨n1, d1, a1, a2, a3, a4, a5⟩ := num_T8 hi
  obtain ⟨n2, d2, b1, b2, b3, b4, b5⟩ := num_T8 hj
  rw [h, b1] at a1
  cases n1 <;> cases n2
  · have e : d2 = d1 := a1
    rw [a5, b5, e]
  · have e : 45 :: d2 = d1 := a1
    have := a2 45 (by rw [← e]; simp)
    omega
  · have e : d2 = 45 :: d1 := a1
    have := b2 45 (by rw [e]; simp)
    omega
  · have e : d2 = d1 := by
      have e : 45 :: d2 = 45 :: d1 := a1
      exact (List.cons.inj e).2
    rw [a5, b5, e]
theorem key_num {w : Str} {i : Int} (h : okKey w) (hi : -1000000 ≤ i ∧ i ≤ 1000000) (e : w = numS i) : False := by
  obtain ⟨neg, ds, e1, e2, e3, _⟩ := num_T8 hi
  subst e
  have hL : ∀ c ∈ sg (numS i), isL c = true := h.2.1
  rw [e1] at hL
  cases ds with
  | nil => exact e3 rfl
  | cons c l =>
    have h1 := hL c (by simp)
    have h2 := e2 c (by simp)
    simp [isL] at h1
    omega
theorem Drs.key {w : Str} {x : TT} (h : Drs w x) (hk : okKey w) : x = wT w := by
  rcases h with ⟨h, _⟩ | ⟨i, hi, e, _⟩
  · exact h
  · exact (key_num hk hi e).elim
theorem Drs.num {i : Int} {x : TT} (h : Drs (numS i) x) (hi : -1000000 ≤ i ∧ i ≤ 1000000) : ∃ t, x = .n t ∧ NumT t i := by
  rcases h with ⟨_, hk⟩ | ⟨j, hj, e, t, h1, h2⟩
  · exact (key_num hk hi rfl).elim
  · have := num_inj hi hj e
    subst this
    exact ⟨t, h1, h2⟩
theorem drs_keys : ∀ {ws : List Str} {X : List TT}, All2 Drs ws X → (∀ k ∈ ws, okKey k) → X = ws.map wT
  | _, _, .nil, _ => rfl
  | _, _, .cons h t, hk => by rw [h.key (hk _ (by simp)), drs_keys t fun k hm => hk k (by simp [hm])]; rfl
/-- the words that may stand in a piece -/
def Wd1 (w : Str) : Prop := okKey w ∨ ∃ i, (-1000000 ≤ i ∧ i ≤ 1000000) ∧ w = numS i
theorem num_head {i : Int} (h : -1000000 ≤ i ∧ i ≤ 1000000) : ∃ c l, sg (numS i) = c :: l ∧ (c = 45 ∨ isD c = true) := by
  obtain ⟨neg, ds, e1, e2, e3, _⟩ := num_T8 h
  cases neg with
  | true => exact ⟨45, ds, e1, Or.inl rfl⟩
  | false =>
    cases ds with
    | nil => exact absurd rfl e3
    | cons c l => exact ⟨c, l, e1, Or.inr (by have := e2 c (by simp); simp [isD]; omega)⟩
theorem in_num (c : Nat) : decide (c ∈ (Str.ofString "-0123456789").cps.toList) = (decide (c = 45) || isD c) := by
  have e : (Str.ofString "-0123456789").cps.toList = 45 :: List.range' 48 10 := by decide +kernel
  rw [e, Bool.eq_iff_iff]
  simp [isD, List.mem_range'_1]
  omega
theorem no_blank {w : Str} (h : Wd1 w) : 32 ∉ w.cps.toList := by
  rcases h with h | ⟨i, hi, rfl⟩
  · intro hm; have := h.2.1 32 hm; cases this
  · obtain ⟨neg, ds, e1, e2, _⟩ := num_T8 hi
    intro hm
    have hm2 : 32 ∈ sg (numS i) := hm
    rw [e1] at hm2
    rcases List.mem_append.mp hm2 with h | h
    · split at h <;> simp at h
    · have := e2 32 h; omega
theorem words_wd {q : Pc} (ho : okP q) : ∀ w ∈ wordsP q, Wd1 w := by
  have N : ∀ i : Int, (-1000000 ≤ i ∧ i ≤ 1000000) → Wd1 (numS i) := fun i h => Or.inr ⟨i, h, rfl⟩
  have L : ∀ s : Str, okKey s → Wd1 s := fun s h => Or.inl h
  cases q <;> unfold okP at ho <;> unfold wordsP <;> simp only [List.mem_cons, List.not_mem_nil, or_false]
  · rintro w (rfl | rfl | rfl | h)
    · exact L _ (by decide +kernel)
    · exact N _ ⟨by omega, by omega⟩
    · exact L _ (by decide +kernel)
    · exact L _ (ho.2.2.2.2 w h)
  · rintro w (rfl | rfl | rfl | rfl)
    · exact L _ (by decide +kernel)
    · exact N _ ⟨by omega, by omega⟩
    · exact L _ (by decide +kernel)
    · exact N _ ⟨by omega, by omega⟩
  · rintro w (rfl | rfl | rfl | h)
    · exact L _ (by decide +kernel)
    · exact N _ ⟨by omega, by omega⟩
    · exact L _ (by decide +kernel)
    · exact L _ (ho.2.2.2.2 w h)
  · rintro w (rfl | rfl | rfl | rfl)
    · exact L _ (by decide +kernel)
    · exact N _ ⟨by omega, by omega⟩
    · exact L _ (by decide +kernel)
    · exact L _ ho.2
  · rintro w (rfl | rfl | rfl | rfl | rfl)
    · exact L _ (by decide +kernel)
    · exact N _ ⟨by omega, by omega⟩
    · exact L _ (by decide +kernel)
    · exact L _ ho.2.1
    · exact N _ ⟨by omega, by omega⟩
  · rintro w (rfl | rfl | rfl | rfl | rfl)
    · exact L _ (by decide +kernel)
    · exact N _ ⟨by omega, by omega⟩
    · exact L _ (by decide +kernel)
    · exact L _ ho.2.1
    · exact N _ ⟨by omega, by omega⟩
  · rintro w (rfl | rfl)
    · exact L _ (by decide +kernel)
    · exact N _ ⟨by omega, by omega⟩
/-- a text that goes on with any row -/
def Pre (t : List Nat) (X : List TT) : Prop := ∀ (rest : List Nat) (xs : List TT), Row rest xs → Row (t ++ rest) (X ++ xs)
theorem Pre.step {t pre s post : List Nat} {X : List TT} {x : TT} (h : Pre t X) (hp : ∀ c ∈ pre, isB c = true) (hs : s = x.t) (ho : TT.ok x) (hq : ∀ c ∈ post, isB c = true) (hn : post ≠ []) : Pre (t ++ pre ++ s ++ post) (X ++ [x]) := by
  intro rest xs hr
  have h1 := Row.bl hq hr
  have hcl : clean (post ++ rest) := by
    cases post with
    | nil => exact absurd rfl hn
    | cons c p => exact Or.inl (hq c (by simp))
  have h2 := Row.tok ho hcl h1
  have h3 := h _ _ (Row.bl hp h2)
  rw [← hs] at h3
  simpa [List.append_assoc] using h3
theorem wT_inj {a b : Str} (h : wT a = wT b) : a = b := by unfold wT sg at h; injection h with h; exact str_ext h
theorem dress_plain {q : Pc} (ho : okP q) {X : List TT} (h : All2 Drs (wordsP q) X) : Read q X := by
  cases q <;> unfold okP at ho <;> unfold wordsP at h
  · cases h with
    | cons h1 h => cases h with
      | cons h2 h => cases h with
        | cons h3 h =>
          obtain ⟨t, e, hn⟩ := h2.num ⟨by omega, by omega⟩
          exact ⟨t, _, by rw [h1.key (by decide +kernel), e, h3.key (by decide +kernel), drs_keys h ho.2.2.2.2], hn, ho.2.1, by have := ho.2.2.1; omega, fun k => Iff.rfl⟩
  · cases h with
    | cons h1 h => cases h with
      | cons h2 h => cases h with
        | cons h3 h => cases h with
          | cons h4 h =>
            cases h
            obtain ⟨t, e, hn⟩ := h2.num ⟨by omega, by omega⟩
            obtain ⟨u, e2, hn2⟩ := h4.num ⟨by omega, by omega⟩
            exact ⟨t, u, by rw [h1.key (by decide +kernel), e, h3.key (by decide +kernel), e2], hn, hn2⟩
  · cases h with
    | cons h1 h => cases h with
      | cons h2 h => cases h with
        | cons h3 h =>
          obtain ⟨t, e, hn⟩ := h2.num ⟨by omega, by omega⟩
          exact ⟨t, _, by rw [h1.key (by decide +kernel), e, h3.key (by decide +kernel), drs_keys h ho.2.2.2.2], hn, ho.2.1, by have := ho.2.2.1; omega, fun k => Iff.rfl⟩
  · cases h with
    | cons h1 h => cases h with
      | cons h2 h => cases h with
        | cons h3 h => cases h with
          | cons h4 h =>
            cases h
            obtain ⟨t, e, hn⟩ := h2.num ⟨by omega, by omega⟩
            exact ⟨t, by rw [h1.key (by decide +kernel), e, h3.key (by decide +kernel), h4.key ho.2], hn⟩
  · cases h with
    | cons h1 h => cases h with
      | cons h2 h => cases h with
        | cons h3 h => cases h with
          | cons h4 h => cases h with
            | cons h5 h =>
              cases h
              obtain ⟨t, e, hn⟩ := h2.num ⟨by omega, by omega⟩
              obtain ⟨u, e2, hn2⟩ := h5.num ⟨by omega, by omega⟩
              exact ⟨t, u, by rw [h1.key (by decide +kernel), e, h3.key (by decide +kernel), h4.key ho.2.1, e2], hn, hn2⟩
  · cases h with
    | cons h1 h => cases h with
      | cons h2 h => cases h with
        | cons h3 h => cases h with
          | cons h4 h => cases h with
            | cons h5 h =>
              cases h
              obtain ⟨t, e, hn⟩ := h2.num ⟨by omega, by omega⟩
              obtain ⟨u, e2, hn2⟩ := h5.num ⟨by omega, by omega⟩
              exact ⟨t, u, by rw [h1.key (by decide +kernel), e, h3.key (by decide +kernel), h4.key ho.2.1, e2], hn, hn2⟩
  · cases h with
    | cons h1 h => cases h with
      | cons h2 h =>
        cases h
        obtain ⟨t, e, hn⟩ := h2.num ⟨by omega, by omega⟩
        exact ⟨t, by rw [h1.key (by decide +kernel), e], hn⟩
theorem rev_eq (ks : List Str) (d : Str) : ((List.range ks.length).map fun k => ks.getD (ks.length - 1 - k) d) = ks.reverse := by
  apply List.ext_getElem
  · simp
  · intro i a b
    rw [List.getElem_map, List.getElem_range, List.getElem_reverse, List.getD_eq_getElem?_getD, List.getElem?_eq_getElem (by simp at b; omega)]
    rfl
theorem cut_mid (a b c : D) (xs : List D) (y : Int) (h0 : 0 ≤ y) (h1 : y ≤ xs.length) : cutD (a :: b :: c :: xs) (some 3) (some (3 + y)) = xs.take y.toNat := by
  unfold cutD
  have e1 : HT.sIx (a :: b :: c :: xs).length 0 (some 3) = 3 := by
    have := HT.sIx_nat (a :: b :: c :: xs).length 0 3
    rw [show ((3 : Nat) : Int) = 3 from rfl] at this
    rw [this]; simp
  have e2 : HT.sIx (a :: b :: c :: xs).length (a :: b :: c :: xs).length (some (3 + y)) = 3 + y.toNat := by
    have := HT.sIx_nat (a :: b :: c :: xs).length (a :: b :: c :: xs).length (3 + y.toNat)
    rw [show ((3 + y.toNat : Nat) : Int) = 3 + y by omega] at this
    rw [this]; simp; omega
  rw [e1, e2]
  show (xs.take (3 + y.toNat - 3)) = _
  congr 1
  omega
/-- the keys in another order, some twice -/
theorem dress_keys {w : Str} {v : Int} {ks zs : List Str} {X : List TT} (hw : okKey w) (hv : 1 ≤ v ∧ v ≤ 20) (hk : okKeys ks) (hz : ∀ k, k ∈ ks ↔ k ∈ zs) (h : All2 Drs ("at" :: numS v :: w :: zs) X) : ∃ t, X = wT "at" :: .n t :: wT w :: zs.map wT ∧ NumT t v := by
  cases h with
  | cons h1 h => cases h with
    | cons h2 h => cases h with
      | cons h3 h =>
        obtain ⟨t, e, hn⟩ := h2.num ⟨by omega, by omega⟩
        exact ⟨t, by rw [h1.key (by decide +kernel), e, h3.key hw, drs_keys h fun k hm => hk.2.2.2 k ((hz k).mpr hm)], hn⟩
section
variable {P : Program} {w : World} {K : PySem.W.Frag} {mg : Str → Option Value} {base : Heap}
theorem ok__law_noise (T : Tx K mg) : FnOk P w K mg base CX0 3 T.a__law_noise T.d__law_noise ["draw", "piece"] (spD K C__law_noise) :=
  DL.Fun.okD (N := ["draw", "piece", "words", "k", "text", "word", "shown"]) T.F__law_noise sc__law_noise (fun cdv A outer s H E hr => 
      (dss_cons (ds_set 2 sc__law_noise.nd (de_split (de_call (ok__law_print T) (hr.mono (by decide)) (by rfl) T.m__law_print T.k__law_print T.v__law_print pass0 (da_cons (dv 1) da_nil)) (de_str))) 
      (dss_cons (ds_if (dt_cmp op_inD2 od_in (de_ix ix_seq od_ix (dv 1) de_int (fun _ _ => rfl)) (de_tup (da_cons (de_str) (da_cons (de_str) da_nil))) (by rfl)) 
      (dss_one (ds_set 2 sc__law_noise.nd (de_op op_addD od_add (de_op op_addD od_add (de_sl (dv 2) do_none (do_some de_int)) (de_lc [("k", 3)] rfl sc__law_noise.nd (di_rg3 (by rfl) T.b_range (da_cons (de_op op_sub od_sub (de_B L2.call_len cd_len (by rfl) T.b_len (by decide +kernel) (da_cons (de_ix ix_seq od_ix (dv 1) de_int (fun _ _ => rfl)) da_nil)) de_int) (da_cons (de_neg de_int) (da_cons (de_neg de_int) da_nil)))) (blkOk_by (sc := (defScope s__law_noise)) (own := [("k", 3)]) (N := ["draw", "piece", "words", "k", "text", "word", "shown"]) (by decide +kernel)) (fun _ _ _ _ _ => (dg_name 3 sc__law_noise.nd)) (fun _ _ _ _ _ => dts_nil) (fun _ _ _ _ _ => (de_ix ix_seq od_ix (de_ix ix_seq od_ix (dv 1) de_int (fun _ _ => rfl)) (dv 3) (fun _ _ => rfl))))) (de_sl (dv 2) (do_some de_int) (do_some (de_op op_addD od_add de_int (de_call (ok__law_next T) (hr.mono (by decide)) (by rfl) T.m__law_next T.k__law_next T.v__law_next pass0 (da_cons (dv 0) (da_cons de_int da_nil))))))))) dss_nil) 
      (dss_cons (ds_set 4 sc__law_noise.nd (de_str)) 
      (dss_cons (ds_for PassesOwn.never rfl (di_seq (dv 2)) (dg_name 5 sc__law_noise.nd) 
      (dss_cons (ds_set 6 sc__law_noise.nd (de_if (dt_cmp op_inD2 od_in (de_ix ix_seq od_ix (dv 5) de_int (fun _ _ => rfl)) (de_str) (by rfl)) (de_call (ok__law_number T) (hr.mono (by decide)) (by rfl) T.m__law_number T.k__law_number T.v__law_number pass0 (da_cons (dv 0) (da_cons (dv 5) da_nil))) (dv 5))) 
      (dss_one (ds_set 4 sc__law_noise.nd (de_op op_addD od_add (de_op op_addD od_add (de_op op_addD od_add (dv 4) (de_ix ix_seq od_ix (de_lst (da_cons (de_str) (da_cons (de_str) (da_cons (de_str) da_nil)))) (de_call (ok__law_next T) (hr.mono (by decide)) (by rfl) T.m__law_next T.k__law_next T.v__law_next pass0 (da_cons (dv 0) (da_cons de_int da_nil))) (fun _ _ => rfl))) (dv 6)) (de_ix ix_seq od_ix (de_lst (da_cons (de_str) (da_cons (de_str) (da_cons (de_str) da_nil)))) (de_call (ok__law_next T) (hr.mono (by decide)) (by rfl) T.m__law_next T.k__law_next T.v__law_next pass0 (da_cons (dv 0) (da_cons de_int da_nil))) (fun _ _ => rfl))))))) 
      (dss_one (ds_ret (dv 4))))))))
    (by intro ds μ Q h; unfold C__law_noise at h; split at h <;> first | rfl | exact h.elim) (by
  intro ds μ Q h
  unfold C__law_noise at h
  split at h
  · rename_i ds' dr p
    obtain ⟨hd, q, rfl, ho, hq⟩ := h
    have hsp : Txt.split (printP q) (" " : Str) = wordsP q := split_words (c := 32) (words_ne q) fun w hw => no_blank (words_wd ho w hw)
    have hw8 := words_ok ho
    refine step_set (fun d μ2 => d = .lst ((wordsP q).map .str) ∧ μ2 = μ) (fun R hR => ?_) fun d μ2 hS => ?_
    · unfold dSplit
      (walk_at "dl")
      refine ⟨q, rfl, ho, _, rfl, by decide +kernel, by have := (print_ok ho).1; exact sz_small (by omega), ?_⟩
      rw [hsp]
      refine ⟨sz_small (by omega), fun k hk => sok_str (hw8.2 k hk).2 (by have := (hw8.2 k hk).1; omega), hR _ _ ⟨rfl, rfl⟩⟩
    obtain ⟨rfl, rfl⟩ := hS
    -- the words, for wrote and among in another order
    refine step (fun ρ' μ3 => ∃ (ws : List Str) (x : Option D), ρ' = [some (.ptr dr), some (ePc q), some (.lst (ws.map .str)), x, none, none, none] ∧ μ3 = μ2 ∧ ws.length ≤ 12 ∧ (∀ w ∈ ws, Wd1 w) ∧ ∀ X : List TT, All2 Drs ws X → Read q X) (fun E' hE' => ?_) fun ρ' μ3 hS => ?_
    · have ho' := ho
      have hwd := words_wd ho
      have hdp := fun (X : List TT) (h : All2 Drs (wordsP q) X) => dress_plain ho h
      clear hsp
      cases q <;> unfold okP at ho'
      · rename_i v ks
        obtain ⟨⟨v1, v2⟩, hks⟩ := ho'
        unfold ePc wordsP
        (walk_at "dl")
        refine lc_mapT (List.range ks.length) (fun k : Nat => D.int ((ks.length : Int) - 1 + (k : Nat) * (-1))) (fun k => D.str (ks.getD (ks.length - 1 - k) ⟨#[]⟩)) (fun R h => ?_) (fun k hk p acc hp N hN => ?_) ?_
        · unfold iRg3 eKeys
          (walk_at "dl")
          have h5 := hks.2.1
          refine ⟨_, _, rfl, ⟨by rw [List.length_map]; omega, by rw [List.length_map]; omega⟩, ⟨by decide, by decide⟩, ?_⟩
          unfold dwnD
          rw [List.length_map, show ((ks.length : Int) - 1 - -1).toNat = ks.length by omega]
          exact h
        · have hk' := List.mem_range.mp hk
          (walk_at "dl")
          unfold eKeys
          (walk_at "dl")
          rw [atI_map, atG ⟨#[]⟩ (by omega) (by omega), show ((ks.length : Int) - 1 + (k : Nat) * (-1)).toNat = ks.length - 1 - k by omega]
          exact ⟨_, rfl, hN _ rfl⟩
        · have h5 := hks.2.1
          have hne : 0 < ks.length := List.length_pos_iff.mpr hks.1
          have er : ((List.range ks.length).map fun k => D.str (ks.getD (ks.length - 1 - k) ⟨#[]⟩)) = ks.reverse.map D.str := by rw [← rev_eq ks ⟨#[]⟩, List.map_map]; rfl
          rw [er]
          (walk_at "dl")
          rw [cut_take _ (by decide)]
          refine ⟨sz_small (by rw [List.length_take, List.length_map, List.length_reverse]; omega), hd, by decide, by decide, fun y y0 y1 => ?_⟩
          (walk_at "dl")
          rw [cut_mid _ _ _ _ y y0 (by rw [List.length_map]; omega)]
          refine ⟨sz_small (by rw [List.length_append, List.length_take, List.length_take, List.length_map, List.length_map, List.length_reverse]; omega), ?_⟩
          have ew : (D.str "at" :: D.str (numS v) :: D.str "wrote" :: ks.map D.str).take (3 : Int).toNat ++ ks.reverse.map D.str ++ (ks.map D.str).take y.toNat = ("at" :: numS v :: "wrote" :: (ks.reverse ++ ks.take y.toNat) : List Str).map D.str := by
            rw [List.map_cons, List.map_cons, List.map_cons, List.map_append, List.map_take]; rfl
          have hz : ∀ k, k ∈ ks ↔ k ∈ ks.reverse ++ ks.take y.toNat := fun k => by
            rw [List.mem_append, List.mem_reverse]
            exact ⟨Or.inl, fun h => h.elim id fun h => List.mem_of_mem_take h⟩
          refine hE' _ _ ⟨("at" :: numS v :: "wrote" :: (ks.reverse ++ ks.take y.toNat)), none, ?_, rfl, ?_, ?_, fun X hX => ?_⟩
          · rw [← ew]; rfl
          · simp; omega
          · intro w hw
            rcases List.mem_cons.mp hw with e | hw
            · subst e; exact Or.inl (by decide +kernel)
            rcases List.mem_cons.mp hw with e | hw
            · subst e; exact Or.inr ⟨v, ⟨by omega, by omega⟩, rfl⟩
            rcases List.mem_cons.mp hw with e | hw
            · subst e; exact Or.inl (by decide +kernel)
            · exact Or.inl (hks.2.2.2 w ((hz w).mpr hw))
          · obtain ⟨t, e, hn⟩ := dress_keys (by decide +kernel) ⟨v1, v2⟩ hks hz hX
            exact ⟨t, _, e, hn, by simp [hks.1], by rw [List.length_append, List.length_reverse, List.length_take]; omega, hz⟩
      · have h := hE' _ _ ⟨_, none, rfl, rfl, (by show 4 ≤ 12; decide), hwd, hdp⟩
        unfold ePc wordsP at *
        (walk_at "dl")
        exact h
      · rename_i v ks
        obtain ⟨⟨v1, v2⟩, hks⟩ := ho'
        unfold ePc wordsP
        (walk_at "dl")
        refine lc_mapT (List.range ks.length) (fun k : Nat => D.int ((ks.length : Int) - 1 + (k : Nat) * (-1))) (fun k => D.str (ks.getD (ks.length - 1 - k) ⟨#[]⟩)) (fun R h => ?_) (fun k hk p acc hp N hN => ?_) ?_
        · unfold iRg3 eKeys
          (walk_at "dl")
          have h5 := hks.2.1
          refine ⟨_, _, rfl, ⟨by rw [List.length_map]; omega, by rw [List.length_map]; omega⟩, ⟨by decide, by decide⟩, ?_⟩
          unfold dwnD
          rw [List.length_map, show ((ks.length : Int) - 1 - -1).toNat = ks.length by omega]
          exact h
        · have hk' := List.mem_range.mp hk
          (walk_at "dl")
          unfold eKeys
          (walk_at "dl")
          rw [atI_map, atG ⟨#[]⟩ (by omega) (by omega), show ((ks.length : Int) - 1 + (k : Nat) * (-1)).toNat = ks.length - 1 - k by omega]
          exact ⟨_, rfl, hN _ rfl⟩
        · have h5 := hks.2.1
          have hne : 0 < ks.length := List.length_pos_iff.mpr hks.1
          have er : ((List.range ks.length).map fun k => D.str (ks.getD (ks.length - 1 - k) ⟨#[]⟩)) = ks.reverse.map D.str := by rw [← rev_eq ks ⟨#[]⟩, List.map_map]; rfl
          rw [er]
          (walk_at "dl")
          rw [cut_take _ (by decide)]
          refine ⟨sz_small (by rw [List.length_take, List.length_map, List.length_reverse]; omega), hd, by decide, by decide, fun y y0 y1 => ?_⟩
          (walk_at "dl")
          rw [cut_mid _ _ _ _ y y0 (by rw [List.length_map]; omega)]
          refine ⟨sz_small (by rw [List.length_append, List.length_take, List.length_take, List.length_map, List.length_map, List.length_reverse]; omega), ?_⟩
          have ew : (D.str "at" :: D.str (numS v) :: D.str "among" :: ks.map D.str).take (3 : Int).toNat ++ ks.reverse.map D.str ++ (ks.map D.str).take y.toNat = ("at" :: numS v :: "among" :: (ks.reverse ++ ks.take y.toNat) : List Str).map D.str := by
            rw [List.map_cons, List.map_cons, List.map_cons, List.map_append, List.map_take]; rfl
          have hz : ∀ k, k ∈ ks ↔ k ∈ ks.reverse ++ ks.take y.toNat := fun k => by
            rw [List.mem_append, List.mem_reverse]
            exact ⟨Or.inl, fun h => h.elim id fun h => List.mem_of_mem_take h⟩
          refine hE' _ _ ⟨("at" :: numS v :: "among" :: (ks.reverse ++ ks.take y.toNat)), none, ?_, rfl, ?_, ?_, fun X hX => ?_⟩
          · rw [← ew]; rfl
          · simp; omega
          · intro w hw
            rcases List.mem_cons.mp hw with e | hw
            · subst e; exact Or.inl (by decide +kernel)
            rcases List.mem_cons.mp hw with e | hw
            · subst e; exact Or.inr ⟨v, ⟨by omega, by omega⟩, rfl⟩
            rcases List.mem_cons.mp hw with e | hw
            · subst e; exact Or.inl (by decide +kernel)
            · exact Or.inl (hks.2.2.2 w ((hz w).mpr hw))
          · obtain ⟨t, e, hn⟩ := dress_keys (by decide +kernel) ⟨v1, v2⟩ hks hz hX
            exact ⟨t, _, e, hn, by simp [hks.1], by rw [List.length_append, List.length_reverse, List.length_take]; omega, hz⟩
      · have h := hE' _ _ ⟨_, none, rfl, rfl, (by show 4 ≤ 12; decide), hwd, hdp⟩
        unfold ePc wordsP at *
        (walk_at "dl")
        exact h
      · have h := hE' _ _ ⟨_, none, rfl, rfl, (by show 5 ≤ 12; decide), hwd, hdp⟩
        unfold ePc wordsP at *
        (walk_at "dl")
        exact h
      · have h := hE' _ _ ⟨_, none, rfl, rfl, (by show 5 ≤ 12; decide), hwd, hdp⟩
        unfold ePc wordsP at *
        (walk_at "dl")
        exact h
      · have h := hE' _ _ ⟨_, none, rfl, rfl, (by show 2 ≤ 12; decide), hwd, hdp⟩
        unfold ePc wordsP at *
        (walk_at "dl")
        exact h
    obtain ⟨ws, x, rfl, rfl, hl, hwd, hrd⟩ := hS
    refine step_set (fun d μ2 => d = .str ⟨#[]⟩ ∧ μ2 = μ3) (fun R hR => ?_) fun d μ2 hS => ?_
    · (walk_at "dl")
      exact hR _ _ ⟨rfl, rfl⟩
    obtain ⟨rfl, rfl⟩ := hS
    show sSeq _ _ _ [some (.ptr dr), some (ePc q), some (.lst (ws.map .str)), x, some (.str ⟨#[]⟩), none, none] _
    refine step_for D.str ws (fun pre ρ' μ4 => (∃ (t : Str) (a b : Option D) (X : List TT), ρ' = [some (.ptr dr), some (ePc q), some (.lst (ws.map .str)), x, some (.str t), a, b] ∧ All2 Drs pre X ∧ Pre (sg t) X ∧ t.length ≤ 110 * pre.length ∧ ∀ c ∈ sg t, c < 128) ∧ μ4 = μ2) (seq_l fun R h => ?_) ⟨⟨_, _, _, [], rfl, .nil, fun rest xs h => h, Nat.le_refl _, fun c hc => by cases hc⟩, rfl⟩ (fun pre w post ρ' μ4 e2 hI E1 hrt1 hE1 => ?_) fun ρ' μ4 hI => ?_
    · (walk_at "dl")
      exact h
    · obtain ⟨⟨t, a, b, X, rfl, hX, hP, hlen, hch⟩, rfl⟩ := hI
      have hw : Wd1 w := hwd w (by rw [e2]; simp)
      show sSeq _ _ E1 [some (.ptr dr), some (ePc q), some (.lst (ws.map .str)), x, some (.str t), some (.str w), b] _
      refine step_set (fun d μ5 => ∃ (s : Str) (y : TT), d = .str s ∧ sg s = y.t ∧ Drs w y ∧ s.length ≤ 101 ∧ (∀ c ∈ sg s, c < 128) ∧ μ5 = μ4) (fun R hR => ?_) fun d μ5 hS => ?_
      · rcases hw with hk | ⟨i, hi, rfl⟩
        · obtain ⟨c, l, hcl⟩ : ∃ c l, sg w = c :: l := by
            cases hsw : sg w with
            | nil => exact absurd hsw hk.1
            | cons c l => exact ⟨c, l, rfl⟩
          have hc : isL c = true := hk.2.1 c (by rw [show w.cps.toList = c :: l from hcl]; simp)
          (walk_at "dl")
          refine ⟨c, by rw [show w.cps.toList = c :: l from hcl]; exact at0, ?_⟩
          rw [in_sign, in_num]
          have hn : (decide (c = 45) || isD c) = false := by
            simp [isL] at hc
            simp [isD]; omega
          rw [hn, if_neg (by decide)]
          exact hR _ _ ⟨w, wT w, rfl, rfl, Or.inl ⟨rfl, hk⟩, by have := hk.2.2; omega, fun c hc => by have := hk.2.1 c hc; simp [isL] at this; omega, rfl⟩
        · obtain ⟨c, l, hcl, hc⟩ := num_head hi
          (walk_at "dl")
          refine ⟨c, by rw [show (numS i).cps.toList = c :: l from hcl]; exact at0, ?_⟩
          rw [in_sign, in_num]
          have hn : (decide (c = 45) || isD c) = true := by
            rcases hc with h | h
            · simp [h]
            · simp [h]
          rw [hn, if_pos rfl]
          refine ⟨hd, i, hi, rfl, fun t' ht' => ?_⟩
          have h1 := ht'.len
          exact hR _ _ ⟨t', .n (sg t'), rfl, rfl, Or.inr ⟨i, hi, rfl, sg t', rfl, ht'⟩, by have h2 := h1.1; unfold sg at h2; rw [Array.length_toList] at h2; exact h2, h1.2, rfl⟩
      obtain ⟨s, y, rfl, hs, hy, hsl, hsc, rfl⟩ := hS
      show sSet 4 _ E1 [some (.ptr dr), some (ePc q), some (.lst (ws.map .str)), x, some (.str t), some (.str w), some (.str s)] _
      have bl1 : ∀ b : Str, (b = "" ∨ b = " " ∨ b = "\n" ∨ b = "  ") → (∀ c ∈ sg b, isB c = true) ∧ b.length ≤ 2 ∧ ∀ c ∈ sg b, c < 128 := by
        rintro b (rfl | rfl | rfl | rfl) <;> decide +kernel
      have fin : ∀ b1 b2 : Str, (b1 = "" ∨ b1 = " " ∨ b1 = "\n" ∨ b1 = "  ") → (b2 = " " ∨ b2 = "  " ∨ b2 = "\n") → E1.nx [some (.ptr dr), some (ePc q), some (.lst (ws.map .str)), x, some (.str (t ++ b1 ++ s ++ b2)), some (.str w), some (.str s)] μ5 := by
        intro b1 b2 h1 h2
        have p1 := bl1 b1 h1
        have p2 := bl1 b2 (by rcases h2 with h | h | h <;> simp [h])
        have ne : sg b2 ≠ [] := by rcases h2 with rfl | rfl | rfl <;> decide +kernel
        refine hE1 _ _ ⟨⟨_, _, _, X ++ [y], rfl, hX.snoc hy, ?_, ?_, ?_⟩, rfl⟩
        · have := hP.step (pre := sg b1) (s := sg s) (post := sg b2) p1.1 hs hy.ok p2.1 ne
          unfold sg at this ⊢
          rw [app_l, app_l, app_l]
          exact this
        · rw [app_len, app_len, app_len, List.length_append, List.length_singleton]
          have := p1.2.1; have := p2.2.1
          omega
        · intro c hc
          unfold sg at hc hch hsc p1 p2
          rw [app_l, app_l, app_l] at hc
          rcases List.mem_append.mp hc with h | h
          · rcases List.mem_append.mp h with h | h
            · rcases List.mem_append.mp h with h | h
              · exact hch c h
              · exact p1.2.2 c h
            · exact hsc c h
          · exact p2.2.2 c h
      have hpl : pre.length ≤ 12 := by
        have h := congrArg List.length e2
        rw [List.length_append] at h
        omega
      (walk_at "dl")
      refine ⟨hd, by decide, by decide, fun i1 a0 a1 => ?_⟩
      (walk_at "dl")
      have hi1 : i1 = 0 ∨ i1 = 1 ∨ i1 = 2 := by omega
      have g2 : ∀ b1 : Str, (b1 = "" ∨ b1 = " " ∨ b1 = "\n" ∨ b1 = "  ") → fAdd μ5 (D.str t) (D.str b1) fun z => fAdd μ5 z (D.str s) fun z => C__law_next [D.ptr dr, D.int 3] μ5 fun y μ2 => fIx μ2 (D.lst [D.str (Str.ofString " "), D.str (Str.ofString "  "), D.str (Str.ofString "\n")]) y fun z_1 => fAdd μ2 z z_1 fun z => E1.nx [some (D.ptr dr), some (ePc q), some (D.lst (List.map D.str ws)), x, some z, some (D.str w), some (D.str s)] μ2 := by
        intro b1 hb1
        have p1 := (bl1 b1 hb1).2.1
        (walk_at "dl")
        refine ⟨sz_small (by omega), sz_small (by rw [app_len]; omega), hd, by decide, by decide, fun i2 c0 c1 => ?_⟩
        (walk_at "dl")
        have hi2 : i2 = 0 ∨ i2 = 1 ∨ i2 = 2 := by omega
        have g3 : ∀ b2 : Str, (b2 = " " ∨ b2 = "  " ∨ b2 = "\n") → fAdd μ5 (D.str (t ++ b1 ++ s)) (D.str b2) fun z => E1.nx [some (D.ptr dr), some (ePc q), some (D.lst (List.map D.str ws)), x, some z, some (D.str w), some (D.str s)] μ5 := by
          intro b2 hb2
          have p2 := (bl1 b2 (by rcases hb2 with h | h | h <;> simp [h])).2.1
          (walk_at "dl")
          exact ⟨sz_small (by rw [app_len, app_len]; omega), fin b1 b2 hb1 hb2⟩
        rcases hi2 with rfl | rfl | rfl
        · exact ⟨_, at0, g3 _ (Or.inl rfl)⟩
        · exact ⟨_, at1, g3 _ (Or.inr (Or.inl rfl))⟩
        · exact ⟨_, at2, g3 _ (Or.inr (Or.inr rfl))⟩
      rcases hi1 with rfl | rfl | rfl
      · exact ⟨_, at0, g2 _ (Or.inl rfl)⟩
      · exact ⟨_, at1, g2 _ (Or.inr (Or.inl rfl))⟩
      · exact ⟨_, at2, g2 _ (Or.inr (Or.inr (Or.inl rfl)))⟩
    · obtain ⟨⟨t, a, b, X, rfl, hX, hP, hlen, hch⟩, rfl⟩ := hI
      (walk_at "dl")
      have hrow := hP [] [] .nil
      rw [List.append_nil, List.append_nil] at hrow
      exact hq t ⟨X, hrow, hrd X hX⟩ (by omega) hch
  · exact h.elim
)

end
end K41
end

-- part B8
section
local macro_rules | `(tactic| walk_at "dl") => `(tactic| simp only [DL.sRet, DL.dJoined, DL.dJs, DL.dFmt, DL.dFld, DL.dMeth, DL.dMake, DL.sFld, DL.sFldI, DL.sSeq, DL.sSet, DL.sIf, DL.sNext, DL.sNever, DL.sDrop, DL.sAsg, DL.sRetN, DL.dVar, DL.dC, DL.dOp, DL.dTest, DL.dAnd, DL.dOr, DL.dNot, DL.dTru, DL.dAndV, DL.dOrV, DL.dNotV, DL.dIf, DL.aNil, DL.aCons, DL.dTup, DL.dLst, DL.dLstM, DL.dCall, DL.dFrz, DL.dB, DL.dNeg, DL.dSl, DL.oNone, DL.oSome, DL.dChn, DL.gN, DL.gT, DL.setAll,
  DL.ix_l, DL.ix_t, DL.ix_s, DL.ix_p, DL.add_i, DL.add_s, DL.add_l, DL.add_t, DL.mul_i, DL.mul_b, DL.sub_i, DL.fdiv_i, DL.mod_i, DL.pow_i, DL.shl_i, DL.shr_i, DL.and_i, DL.lt_i, DL.le_i, DL.gt_i, DL.ge_i, DL.le_s, DL.in_t, DL.in_l, DL.in_s, DL.len_l, DL.len_t, DL.len_s, DL.len_p, DL.list_l, DL.list_t, DL.list_s, DL.list_p, DL.tuple_l, DL.tuple_t, DL.int_i, DL.int_b, DL.abs_i, DL.max_i, DL.min_i, DL.all_l, DL.any_l, DL.isi_1, DL.isi_n, DL.sl_l, DL.sl_t, DL.sl_s, DL.neg_i, DL.isN_i, DL.notN_i, DL.eq_x, DL.ne_x,
  DL.w_wrote_many, DL.w_wrote_many_b, DL.w_wrote_among, DL.w_wrote_among_b, DL.w_wrote_did, DL.w_wrote_did_b, DL.w_wrote_times, DL.w_wrote_times_b, DL.w_wrote_value, DL.w_wrote_value_b, DL.w_wrote_head, DL.w_wrote_head_b, DL.w_many_wrote, DL.w_many_wrote_b, DL.w_many_among, DL.w_many_among_b, DL.w_many_did, DL.w_many_did_b, DL.w_many_times, DL.w_many_times_b, DL.w_many_value, DL.w_many_value_b, DL.w_many_head, DL.w_many_head_b, DL.w_among_wrote, DL.w_among_wrote_b, DL.w_among_many, DL.w_among_many_b, DL.w_among_did, DL.w_among_did_b, DL.w_among_times, DL.w_among_times_b, DL.w_among_value, DL.w_among_value_b, DL.w_among_head, DL.w_among_head_b, DL.w_did_wrote, DL.w_did_wrote_b, DL.w_did_many, DL.w_did_many_b, DL.w_did_among, DL.w_did_among_b, DL.w_did_times, DL.w_did_times_b, DL.w_did_value, DL.w_did_value_b, DL.w_did_head, DL.w_did_head_b, DL.w_times_wrote, DL.w_times_wrote_b, DL.w_times_many, DL.w_times_many_b, DL.w_times_among, DL.w_times_among_b, DL.w_times_did, DL.w_times_did_b, DL.w_times_value, DL.w_times_value_b, DL.w_times_head, DL.w_times_head_b, DL.w_value_wrote, DL.w_value_wrote_b, DL.w_value_many, DL.w_value_many_b, DL.w_value_among, DL.w_value_among_b, DL.w_value_did, DL.w_value_did_b, DL.w_value_times, DL.w_value_times_b, DL.w_value_head, DL.w_value_head_b, DL.w_head_wrote, DL.w_head_wrote_b, DL.w_head_many, DL.w_head_many_b, DL.w_head_among, DL.w_head_among_b, DL.w_head_did, DL.w_head_did_b, DL.w_head_times, DL.w_head_times_b, DL.w_head_value, DL.w_head_value_b,
  DL.q_ss, DL.q_ii, DL.q_bb, DL.q_nn, DL.q_tt, DL.q_ll, DL.q_si, DL.q_sn, DL.q_st, DL.q_sl, DL.q_is, DL.q_in, DL.q_it, DL.q_il, DL.q_ns, DL.q_ni, DL.q_nt, DL.q_nl, DL.q_ts, DL.q_ti, DL.q_tn, DL.q_tl, DL.q_ls, DL.q_li, DL.q_ln, DL.q_lt, DL.qs_nil, DL.qs_cons, DL.qs_nc, DL.qs_cn, DL.p_t16, DL.p_l16, DL.p_t15, DL.p_l15, DL.p_t14, DL.p_l14, DL.p_t13, DL.p_l13, DL.p_t12, DL.p_l12, DL.p_s, DL.p_i, DL.p_b, DL.p_n, DL.ps_nil, DL.ps_cons, DL.t_b, DL.t_i, DL.t_l, DL.t_t, DL.t_n, DL.n_n, DL.n_i, DL.n_s, DL.n_t, DL.n_l, DL.n_b, DL.f_s, DL.f_i,
  Bool.false_and, Bool.and_false, DL.z0, DL.z1, DL.z2, DL.z3, DL.z4, DL.z5, DL.z6, DL.z12,
  DL.startD, DL.sFrz, DL.sApp, DL.yesD, DL.lcTurn, DL.wipeE, DL.at0, DL.at1, DL.at2, DL.at3, DL.at4, List.map_cons, List.map_nil, List.replicate_succ, List.replicate_zero, List.length_cons, List.length_nil, List.cons_append, List.nil_append, List.set_cons_zero, List.set_cons_succ, List.getElem?_cons_zero, List.getElem?_cons_succ, Option.some.injEq, exists_eq_left, exists_eq_left', exists_eq', exists_eq, true_and, and_true, decide_eq_true_eq, if_true, if_false, Bool.false_eq_true, reduceIte, Nat.reduceAdd, Nat.reduceSub, DL.D.bl.injEq, DL.D.int.injEq, DL.D.str.injEq, DL.D.tup.injEq, DL.D.lst.injEq, DL.D.ptr.injEq, Bool.not_true, Bool.not_false, beq_self_eq_true, List.all_cons, List.all_nil, List.any_cons, List.any_nil, Bool.and_true, Bool.true_and, Bool.or_false, Bool.false_or, Bool.or_true, Bool.true_or, Bool.false_xor, Bool.true_xor, beq_iff_eq, Bool.not_eq_true, Int.reduceEq, Int.reduceBEq, and_self])

namespace K41
open PySem L2 DL PySem.NumText
def C_law : CT := fun ds μ Q => match ds with
  | [.scr ns] => ns.length ≤ 63 ∧ ∀ μ', Q (.bl true) μ'
  | _ => False
theorem lc_byQ {α : Type} {F : TF (List D)} {g : TGD} {A : TF Bool} {Fe : TF D} {vs : List Nat} {ρ : DL.Env} {μ : Mu} {Q : D → Mu → Prop} (f : α → D) (S : α → Option D → Prop) (G : List α → Prop) (hF : ∀ R : List D → Mu → Prop, (∀ l, G l → R (l.map f) μ) → F ρ μ R)
    (ht : ∀ l, G l → ∀ a ∈ l, TurnS g A Fe (wipeE ρ vs) μ (fun _ r => S a r) (f a)) (hQ : ∀ l, G l → ∀ rs, All2 S l rs → Q (.lst (rs.filterMap id)) μ) : dLc F g A Fe vs ρ μ Q :=
  hF _ fun l hl => lc_byT (F := fun _ μ R => R (l.map f) μ) l f S (fun R h => h) (ht l hl) (hQ l hl)
theorem same_pc {q : Pc} (h : okP q) : okSame 3 (ePc q) := by
  have hk : ∀ ks : List Str, ks.length ≤ 5 → okSame 2 (eKeys ks) := fun ks h => ⟨by rw [List.length_map]; omega, fun d hd => by obtain ⟨k, _, rfl⟩ := List.mem_map.mp hd; trivial⟩
  cases q <;> unfold okP at h <;> unfold ePc <;> refine ⟨by simp, ?_⟩ <;> simp only [List.mem_cons, List.not_mem_nil, or_false]
  · rintro d (rfl | rfl | rfl) <;> first | trivial | exact hk _ h.2.2.1
  · rintro d (rfl | rfl | rfl) <;> trivial
  · rintro d (rfl | rfl | rfl) <;> first | trivial | exact hk _ h.2.2.1
  · rintro d (rfl | rfl | rfl) <;> trivial
  · rintro d (rfl | rfl | rfl | rfl) <;> trivial
  · rintro d (rfl | rfl | rfl | rfl) <;> trivial
  · rintro d (rfl | rfl) <;> trivial
theorem same_news {ns : List Pc} (hl : ns.length ≤ 6) (h : ∀ q ∈ ns, okP q) : okSame 4 (eNews ns) := ⟨by rw [List.length_map]; omega, fun d hd => by obtain ⟨q, hq, rfl⟩ := List.mem_map.mp hd; exact same_pc (h q hq)⟩
theorem plain_pc {n : Nat} (q : Pc) : DL.plain (n + 2) (ePc q) = true := by
  cases q <;> unfold ePc <;> simp [DL.plain, DL.plains, eKeys] <;> (try exact plains_map _ fun _ _ => by cases n <;> simp [DL.plain])
theorem eqv_self : ∀ ns : List Pc, eqvDs (ns.map ePc) (ns.map ePc) = true := by
  have hk : ∀ ks : List Str, eqvDs (ks.map D.str) (ks.map D.str) = true := fun ks => (eqvDs_map eqv_str ks ks).mpr rfl
  intro ns
  induction ns with
  | nil => exact qs_nil
  | cons q ns ih =>
    rw [List.map_cons, qs_cons, ih, Bool.and_true]
    cases q <;> simp [ePc, eKeys, eqvD, eqvDs, hk]
section
variable {P : Program} {w : World} {K : PySem.W.Frag} {mg : Str → Option Value} {base : Heap}
theorem ok_law (T : Tx K mg) : FnOk P w K mg base CX0 9 T.a_law T.d_law ["script"] (spD K C_law) :=
  DL.Fun.okD (N := ["script", "draw", "turn", "news", "piece", "text", "handed", "noisy"]) T.F_law sc_law (fun cdv A outer s H E hr => 
      (dss_cons (ds_set 1 sc_law.nd (de_call (ok__law_draw T) (hr.mono (by decide)) (by rfl) T.m__law_draw T.k__law_draw T.v__law_draw pass0 (da_cons (dv 0) da_nil))) 
      (dss_cons (ds_for PassesOwn.never rfl (di_rg1 (by rfl) T.b_range (da_cons de_int da_nil)) (dg_name 2 sc_law.nd) 
      (dss_cons (ds_setLc 3 [("piece", 4)] rfl sc_law.nd (sw_true rfl rfl rfl (by decide +kernel)) (di_seq (de_call (ok__law_news T) (hr.mono (by decide)) (by rfl) T.m__law_news T.k__law_news T.v__law_news pass0 (da_cons (dv 1) (da_cons (de_call (ok__law_shelf T) (hr.mono (by decide)) (by rfl) T.m__law_shelf T.k__law_shelf T.v__law_shelf pass0 (da_cons (dv 1) da_nil)) (da_cons de_int (da_cons de_int (da_cons de_bl da_nil))))))) (blkOk_by (sc := (defScope s_law)) (own := [("piece", 4)]) (N := ["script", "draw", "turn", "news", "piece", "text", "handed", "noisy"]) (by decide +kernel)) (fun _ _ _ _ _ => (dg_name 4 sc_law.nd)) (fun _ _ _ _ _ => dts_nil) (fun _ _ _ _ _ => (de_call (ok__law_odd T) (hr.mono (by decide)) (by rfl) T.m__law_odd T.k__law_odd T.v__law_odd pass0 (da_cons (dv 1) (da_cons (dv 4) da_nil))))) 
      (dss_cons (ds_set 5 sc_law.nd (de_join (de_str) (de_lc [("piece", 4)] rfl sc_law.nd (di_seq (dv 3)) (blkOk_by (sc := (defScope s_law)) (own := [("piece", 4)]) (N := ["script", "draw", "turn", "news", "piece", "text", "handed", "noisy"]) (by decide +kernel)) (fun _ _ _ _ _ => (dg_name 4 sc_law.nd)) (fun _ _ _ _ _ => dts_nil) (fun _ _ _ _ _ => (de_call (ok__law_print T) (hr.mono (by decide)) (by rfl) T.m__law_print T.k__law_print T.v__law_print pass0 (da_cons (dv 4) da_nil)))))) 
      (dss_cons (ds_set 6 sc_law.nd (de_T call_list_of cd_list (by rfl) T.b_list (by decide +kernel) (da_cons (dv 3) da_nil))) 
      (dss_cons (ds_if (dw_pt (dw_or (dt_not (dt_tru (de_call (ok__law_same T) (hr.mono (by decide)) (by rfl) T.m__law_same T.k__law_same T.v__law_same pass0 (da_cons (de_call (ok_print_news T) (hr.mono (by decide)) (by rfl) T.m_print_news T.k_print_news T.v_print_news pass0 (da_cons (dv 6) da_nil)) (da_cons (dv 5) da_nil))))) (dw_or (dt_cmp (op_neD hr.units) od_ne (dv 6) (dv 3) (nomark _)) (dw_or1 (dt_not (dt_tru (de_call (ok__law_same T) (hr.mono (by decide)) (by rfl) T.m__law_same T.k__law_same T.v__law_same pass0 (da_cons (de_call (ok_parse_news T) (hr.mono (by decide)) (by rfl) T.m_parse_news T.k_parse_news T.v_parse_news pass0 (da_cons (dv 5) da_nil)) (da_cons (dv 3) da_nil))))))))) 
      (dss_one (ds_ret de_bl)) dss_nil) 
      (dss_cons (ds_set 7 sc_law.nd (de_join (de_str) (de_lc [("piece", 4)] rfl sc_law.nd (di_seq (dv 3)) (blkOk_by (sc := (defScope s_law)) (own := [("piece", 4)]) (N := ["script", "draw", "turn", "news", "piece", "text", "handed", "noisy"]) (by decide +kernel)) (fun _ _ _ _ _ => (dg_name 4 sc_law.nd)) (fun _ _ _ _ _ => dts_nil) (fun _ _ _ _ _ => (de_call (ok__law_noise T) (hr.mono (by decide)) (by rfl) T.m__law_noise T.k__law_noise T.v__law_noise pass0 (da_cons (dv 1) (da_cons (dv 4) da_nil))))))) 
      (dss_one (ds_if (dt_not (dt_tru (de_call (ok__law_same T) (hr.mono (by decide)) (by rfl) T.m__law_same T.k__law_same T.v__law_same pass0 (da_cons (de_call (ok_parse_news T) (hr.mono (by decide)) (by rfl) T.m_parse_news T.k_parse_news T.v_parse_news pass0 (da_cons (dv 7) da_nil)) (da_cons (dv 3) da_nil))))) 
      (dss_one (ds_ret de_bl)) dss_nil)))))))) 
      (dss_one (ds_ret de_bl)))))
    (by intro ds μ Q h; unfold C_law at h; split at h <;> first | rfl | exact h.elim) (by
  intro ds μ Q h
  unfold C_law at h
  split at h
  · rename_i ds' scr
    obtain ⟨hl, hq⟩ := h
    refine step_set (fun d μ' => ∃ dr, d = .ptr dr ∧ μ' dr = some .draw) (fun R hR => ?_) fun d μ1 hS => ?_
    · (walk_at "dl")
      exact ⟨hl, fun p hp => hR _ _ ⟨p, rfl, Mu.put_same⟩⟩
    obtain ⟨dr, rfl, hd⟩ := hS
    show sSeq _ _ _ [some (.scr scr), some (.ptr dr), none, none, none, none, none, none] μ1
    refine step_for (fun i : Nat => D.int (0 + (i : Nat))) (List.range 4) (fun _ ρ' μ' => (∃ a b c d e f, ρ' = [some (.scr scr), some (.ptr dr), a, b, c, d, e, f]) ∧ μ1 = μ') (rg1 (i := 4) ⟨by decide, by decide⟩ fun R h => ?_) ⟨⟨_, _, _, _, _, _, rfl⟩, rfl⟩ (fun pre t post ρ' μ' e hI E0 hrt hE => ?_) fun ρ' μ' hI => ?_
    · (walk_at "dl")
      exact h
    · obtain ⟨⟨a, b, c, d, e, f, rfl⟩, rfl⟩ := hI
      show sSeq _ _ E0 [some (.scr scr), some (.ptr dr), some _, b, c, d, e, f] _
      -- the news
      refine step_set (fun d μ2 => ∃ ns : List Pc, ns.length ≤ 6 ∧ (∀ q ∈ ns, okP q) ∧ d = eNews ns ∧ μ1 = μ2) (fun R hR => ?_) fun d0 μ2 hS => ?_
      · refine lc_byQ ePc (fun _ r => ∃ q', okP q' ∧ r = some (ePc q')) (fun l : List Pc => l.length ≤ 6 ∧ ∀ q ∈ l, okP q) (fun R hR => ?_) (fun l hl q hq' p acc hp N hN => ?_) fun l hl rs hrs => ?_
        · unfold iSeq
          (walk_at "dl")
          refine ⟨hd, fun s hs => ?_⟩
          (walk_at "dl")
          exact ⟨hd, rfl, rfl, rfl, s, hs, rfl, fun ns h1 h2 => hR ns ⟨h1, h2⟩⟩
        · (walk_at "dl")
          exact ⟨by rw [Mu.put_ne (Mu.ne_of hd hp)]; exact hd, q, rfl, hl.2 q hq', fun q' oq => hN _ ⟨q', oq, rfl⟩⟩
        · have hk : ∀ (l : List Pc) (rs : List (Option D)), All2 (fun _ r => ∃ q', okP q' ∧ r = some (ePc q')) l rs → ∃ ns : List Pc, rs.filterMap id = ns.map ePc ∧ ns.length = l.length ∧ ∀ q ∈ ns, okP q := by
            intro l rs h
            induction h with
            | nil => exact ⟨[], rfl, rfl, by simp⟩
            | @cons k r l rs h1 h2 ih =>
              obtain ⟨ns, e, e2, e3⟩ := ih
              obtain ⟨q', hq', rfl⟩ := h1
              refine ⟨q' :: ns, by simp [e], by simp [e2], fun d hd => ?_⟩
              rcases List.mem_cons.mp hd with h | h
              · subst h; exact hq'
              · exact e3 d h
          obtain ⟨ns, e1, e2, e3⟩ := hk _ _ hrs
          rw [e1]
          exact hR _ _ ⟨ns, by rw [e2]; exact hl.1, e3, rfl, rfl⟩
      obtain ⟨ns, hn6, ho, rfl, rfl⟩ := hS
      have hsn := same_news hn6 ho
      have hpr : ∀ q ∈ ns, (printP q).length ≤ 824 ∧ ∀ c ∈ (printP q).cps.toList, c < 128 := fun q hq => print_ok (ho q hq)
      have hjoin : ∀ (sep : Str) (ts : List Str) (N : Nat), sep.length ≤ 2 → (∀ c ∈ sep.cps.toList, c < 128) → ts.length ≤ 6 → N ≤ 1320 → (∀ k ∈ ts, k.length ≤ N ∧ ∀ c ∈ k.cps.toList, c < 128) → (ts.map (·.length)).sum + ts.length * sep.length ≤ 16777216 ∧ SOk (Str.join sep ts) ∧ (Str.join sep ts).length ≤ 9000 := by
        intro sep ts N h1 h2 h3 h4 h5
        have hj := join_gen (sep := sep) (n := N) h1 h2 ts h5
        have hs := sum_le (n := N) ts fun k hk => (h5 k hk).1
        have m1 : (N + 2) * ts.length ≤ 1322 * 6 := Nat.mul_le_mul (by omega) h3
        have m2 : N * ts.length ≤ 1320 * 6 := Nat.mul_le_mul (by omega) h3
        have m3 : ts.length * sep.length ≤ 6 * 2 := Nat.mul_le_mul h3 h1
        exact ⟨by omega, sok_str hj.2 (by omega), by omega⟩
      -- its text
      have hpj := hjoin "; " (ns.map printP) 824 (by decide +kernel) (by decide +kernel) (by rw [List.length_map]; exact hn6) (by omega) fun k hk => by
        obtain ⟨q, hq', rfl⟩ := List.mem_map.mp hk
        exact hpr q hq'
      show sSeq _ _ E0 [some (.scr scr), some (.ptr dr), some _, some (eNews ns), c, d, e, f] _
      refine step_set (fun d μ2 => d = .str (Str.join "; " (ns.map printP)) ∧ μ1 = μ2) (fun R hR => ?_) fun d0 μ2 hS => ?_
      · unfold dJoin
        (walk_at "dl")
        refine lc_mapT ns ePc (fun q => .str (printP q)) (seq_l fun R h => ?_) (fun q hqm p acc hp N hN => ?_) ?_
        · unfold eNews
          (walk_at "dl")
          exact h
        · (walk_at "dl")
          exact ⟨q, rfl, ho q hqm, hN _ rfl⟩
        · refine ⟨_, ns.map printP, Or.inl rfl, by rw [show (ns.map fun q => D.str (printP q)) = (ns.map printP).map D.str by rw [List.map_map]; rfl]; exact strs_map _, ?_, ?_, ?_⟩
          · exact hpj.1
          · rw [txt_join]; exact hpj.2.1
          · rw [txt_join]; exact hR _ _ ⟨rfl, rfl⟩
      obtain ⟨rfl, rfl⟩ := hS
      refine step_set (fun d μ2 => d = eNews ns ∧ μ1 = μ2) (fun R hR => ?_) fun d0 μ2 hS => ?_
      · unfold eNews
        (walk_at "dl")
        exact hR _ _ ⟨rfl, rfl⟩
      obtain ⟨rfl, rfl⟩ := hS
      show sSeq _ _ E0 [some (.scr scr), some (.ptr dr), some _, some (eNews ns), c, some (.str (Str.join "; " (ns.map printP))), some (eNews ns), f] _
      have hread : ∃ ts, NT ns ts ∧ Lay false 0 (sg (Str.join "; " (ns.map printP))) ts := news_nt (news_join [32] (by decide +kernel) (by decide) ns (ns.map printP) (by rw [List.length_map]) fun i q t h1 h2 => by
        rw [List.getElem?_map, h1] at h2
        cases h2
        have hqm := List.mem_of_getElem? h1
        exact ⟨ho q hqm, print_reads (ho q hqm)⟩)
      refine step (fun ρ' μ2 => ρ' = [some (.scr scr), some (.ptr dr), some (.int (0 + (t : Int))), some (eNews ns), c, some (.str (Str.join "; " (ns.map printP))), some (eNews ns), f] ∧ μ1 = μ2) (fun E' hE' => ?_) fun ρ' μ2 hS => ?_
      · (walk_at "dl")
        refine ⟨ns, rfl, by omega, ho, rfl, trivial, ?_⟩
        (walk_at "dl")
        have hpl : DL.plain 16 (eNews ns) = true := by unfold eNews; rw [DL.plain]; exact plains_map ns fun q _ => plain_pc (n := 13) q
        have hev : eqvD (eNews ns) (eNews ns) = true := by unfold eNews; rw [eqvD]; exact eqv_self ns
        refine ⟨hpl, hpl, ?_⟩
        rw [hev, if_neg (by decide)]
        obtain ⟨tk, n1, n2⟩ := hread
        refine ⟨ns, tk, n2, hpj.2.2, n1, by omega, rfl, hsn, ?_⟩
        (walk_at "dl")
        exact hE' _ _ ⟨rfl, rfl⟩
      obtain ⟨rfl, rfl⟩ := hS
      -- noise
      refine step_set (fun d μ2 => ∃ ts : List Str, d = .str (Str.join ";" ts) ∧ ts.length = ns.length ∧ (Str.join ";" ts).length ≤ 9000 ∧ (∀ (i : Nat) (q : Pc) (t : Str), ns[i]? = some q → ts[i]? = some t → okP q ∧ Reads q (sg t)) ∧ μ1 = μ2) (fun R hR => ?_) fun d0 μ2 hS => ?_
      · unfold dJoin
        (walk_at "dl")
        refine lc_byT ns ePc (fun q r => ∃ t : Str, r = some (.str t) ∧ Reads q (sg t) ∧ t.length ≤ 1320 ∧ ∀ c ∈ sg t, c < 128) (seq_l fun R h => ?_) (fun q hqm p acc hp N hN => ?_) fun rs hrs => ?_
        · unfold eNews
          (walk_at "dl")
          exact h
        · (walk_at "dl")
          exact ⟨by rw [Mu.put_ne (Mu.ne_of hd hp)]; exact hd, q, rfl, ho q hqm, fun t h1 h2 h3 => hN _ ⟨t, rfl, h1, h2, h3⟩⟩
        · have hk : ∀ (l : List Pc) (rs : List (Option D)), (∀ q ∈ l, okP q) → All2 (fun q r => ∃ t : Str, r = some (.str t) ∧ Reads q (sg t) ∧ t.length ≤ 1320 ∧ ∀ c ∈ sg t, c < 128) l rs → ∃ ts : List Str, rs.filterMap id = ts.map D.str ∧ ts.length = l.length ∧ (∀ k ∈ ts, k.length ≤ 1320 ∧ ∀ c ∈ k.cps.toList, c < 128) ∧ ∀ (i : Nat) (q : Pc) (t : Str), l[i]? = some q → ts[i]? = some t → okP q ∧ Reads q (sg t) := by
            intro l rs hok h
            induction h with
            | nil => exact ⟨[], rfl, rfl, by simp, by simp⟩
            | @cons k r l rs h1 h2 ih =>
              obtain ⟨ts, e, e2, e3, e4⟩ := ih fun q hq => hok q (by simp [hq])
              obtain ⟨t, rfl, r1, r2, r3⟩ := h1
              refine ⟨t :: ts, by simp [e], by simp [e2], fun d hd => ?_, fun i q u hi hu => ?_⟩
              · rcases List.mem_cons.mp hd with h | h
                · subst h; exact ⟨r2, r3⟩
                · exact e3 d h
              · cases i with
                | zero => simp at hi hu; subst hi; subst hu; exact ⟨hok _ (by simp), r1⟩
                | succ i => exact e4 i q u (by simpa using hi) (by simpa using hu)
          obtain ⟨ts, e1, e2, e3, e4⟩ := hk _ _ ho hrs
          have hj := hjoin ";" ts 1320 (by decide +kernel) (by decide +kernel) (by rw [e2]; exact hn6) (by omega) e3
          rw [e1]
          refine ⟨_, ts, Or.inl rfl, strs_map _, hj.1, by rw [txt_join]; exact hj.2.1, ?_⟩
          rw [txt_join]
          exact hR _ _ ⟨ts, rfl, e2, hj.2.2, e4, rfl⟩
      obtain ⟨ts, rfl, t2, t3, t4, rfl⟩ := hS
      have hread2 : ∃ tk, NT ns tk ∧ Lay false 0 (sg (Str.join ";" ts)) tk := news_nt (news_join [] (by decide +kernel) (by decide) ns ts t2.symm t4)
      obtain ⟨tk, n1, n2⟩ := hread2
      (walk_at "dl")
      refine ⟨ns, tk, n2, t3, n1, by omega, rfl, hsn, ?_⟩
      (walk_at "dl")
      exact hE _ _ ⟨⟨_, _, _, _, _, _, rfl⟩, rfl⟩
    · obtain ⟨⟨a, b, c, d, e, f, rfl⟩, rfl⟩ := hI
      exact hq _
  · exact h.elim
)

end
end K41
end

namespace K41
open PySem L2 DL
theorem sp_law {K : PySem.W.Frag} (H : Hp) (a : Addr) (ns : List Int) (hl : ns.length ≤ 63) (hS : SqL K H a (ns.map V.int)) : spD K C_law [.ref a] H (fun v _ => v = .bl true) fun _ _ _ => False := by
  have eh : DL.hide H (fun _ => none) = H := by funext b; rfl
  refine ⟨[.scr ns], fun _ => none, fun d _ => d = .bl true, ?_, (fun _ _ h => by cases h), ⟨hl, fun _ => rfl⟩, fun d _ v _ hd _ r => ?_⟩
  · rw [eh]; exact .cons (.scr hS) .nil
  · subst hd; cases r; rfl
theorem all_mk {l : PySem.W.OpenLaw} {w : World} {K : PySem.W.Frag} {h : Heap} {mg : Str → Option Value} {fa : Addr} (X : K.In h) (G : h.Ns mainGlobals mg) (hfa : mg "law" = some (.ref fa))
    {C_Reader : Addr}
    {a__law_draw : Addr} {od__law_draw an__law_draw : Option Addr} {sl__law_draw : Array (Option Value)} {oc__law_draw kV__law_draw dc__law_draw pm__law_draw cd__law_draw ct__law_draw : Value}
    {a__law_commits : Addr} {od__law_commits an__law_commits : Option Addr} {sl__law_commits : Array (Option Value)} {oc__law_commits kV__law_commits dc__law_commits pm__law_commits cd__law_commits ct__law_commits : Value}
    {a__law_next : Addr} {od__law_next an__law_next : Option Addr} {sl__law_next : Array (Option Value)} {oc__law_next kV__law_next dc__law_next pm__law_next cd__law_next ct__law_next : Value}
    {a__law_bent : Addr} {od__law_bent an__law_bent : Option Addr} {sl__law_bent : Array (Option Value)} {oc__law_bent kV__law_bent dc__law_bent pm__law_bent cd__law_bent ct__law_bent : Value}
    {a__law_told : Addr} {od__law_told an__law_told : Option Addr} {sl__law_told : Array (Option Value)} {oc__law_told kV__law_told dc__law_told pm__law_told cd__law_told ct__law_told : Value}
    {a__law_news : Addr} {od__law_news an__law_news : Option Addr} {sl__law_news : Array (Option Value)} {oc__law_news kV__law_news dc__law_news pm__law_news cd__law_news ct__law_news : Value}
    {a__law_number : Addr} {od__law_number an__law_number : Option Addr} {sl__law_number : Array (Option Value)} {oc__law_number kV__law_number dc__law_number pm__law_number cd__law_number ct__law_number : Value}
    {a__law_print : Addr} {od__law_print an__law_print : Option Addr} {sl__law_print : Array (Option Value)} {oc__law_print kV__law_print dc__law_print pm__law_print cd__law_print ct__law_print : Value}
    {a__law_noise : Addr} {od__law_noise an__law_noise : Option Addr} {sl__law_noise : Array (Option Value)} {oc__law_noise kV__law_noise dc__law_noise pm__law_noise cd__law_noise ct__law_noise : Value}
    {a__law_odd : Addr} {od__law_odd an__law_odd : Option Addr} {sl__law_odd : Array (Option Value)} {oc__law_odd kV__law_odd dc__law_odd pm__law_odd cd__law_odd ct__law_odd : Value}
    {a__law_same : Addr} {od__law_same an__law_same : Option Addr} {sl__law_same : Array (Option Value)} {oc__law_same kV__law_same dc__law_same pm__law_same cd__law_same ct__law_same : Value}
    {a__law_shelf : Addr} {od__law_shelf an__law_shelf : Option Addr} {sl__law_shelf : Array (Option Value)} {oc__law_shelf kV__law_shelf dc__law_shelf pm__law_shelf cd__law_shelf ct__law_shelf : Value}
    {a_Reader___init__ : Addr} {od_Reader___init__ an_Reader___init__ : Option Addr} {sl_Reader___init__ : Array (Option Value)} {oc_Reader___init__ kV_Reader___init__ dc_Reader___init__ pm_Reader___init__ cd_Reader___init__ ct_Reader___init__ : Value}
    {a_Reader_sees : Addr} {od_Reader_sees an_Reader_sees : Option Addr} {sl_Reader_sees : Array (Option Value)} {oc_Reader_sees kV_Reader_sees dc_Reader_sees pm_Reader_sees cd_Reader_sees ct_Reader_sees : Value}
    {a_Reader_take : Addr} {od_Reader_take an_Reader_take : Option Addr} {sl_Reader_take : Array (Option Value)} {oc_Reader_take kV_Reader_take dc_Reader_take pm_Reader_take cd_Reader_take ct_Reader_take : Value}
    {a_number_of : Addr} {od_number_of an_number_of : Option Addr} {sl_number_of : Array (Option Value)} {oc_number_of kV_number_of dc_number_of pm_number_of cd_number_of ct_number_of : Value}
    {a_Reader_take_number : Addr} {od_Reader_take_number an_Reader_take_number : Option Addr} {sl_Reader_take_number : Array (Option Value)} {oc_Reader_take_number kV_Reader_take_number dc_Reader_take_number pm_Reader_take_number cd_Reader_take_number ct_Reader_take_number : Value}
    {a_Reader_sees_word : Addr} {od_Reader_sees_word an_Reader_sees_word : Option Addr} {sl_Reader_sees_word : Array (Option Value)} {oc_Reader_sees_word kV_Reader_sees_word dc_Reader_sees_word pm_Reader_sees_word cd_Reader_sees_word ct_Reader_sees_word : Value}
    {a_Reader_take_word : Addr} {od_Reader_take_word an_Reader_take_word : Option Addr} {sl_Reader_take_word : Array (Option Value)} {oc_Reader_take_word kV_Reader_take_word dc_Reader_take_word pm_Reader_take_word cd_Reader_take_word ct_Reader_take_word : Value}
    {a_Reader_sees_key : Addr} {od_Reader_sees_key an_Reader_sees_key : Option Addr} {sl_Reader_sees_key : Array (Option Value)} {oc_Reader_sees_key kV_Reader_sees_key dc_Reader_sees_key pm_Reader_sees_key cd_Reader_sees_key ct_Reader_sees_key : Value}
    {a_Reader_take_key : Addr} {od_Reader_take_key an_Reader_take_key : Option Addr} {sl_Reader_take_key : Array (Option Value)} {oc_Reader_take_key kV_Reader_take_key dc_Reader_take_key pm_Reader_take_key cd_Reader_take_key ct_Reader_take_key : Value}
    {a_Reader_take_keys : Addr} {od_Reader_take_keys an_Reader_take_keys : Option Addr} {sl_Reader_take_keys : Array (Option Value)} {oc_Reader_take_keys kV_Reader_take_keys dc_Reader_take_keys pm_Reader_take_keys cd_Reader_take_keys ct_Reader_take_keys : Value}
    {a_read_commit : Addr} {od_read_commit an_read_commit : Option Addr} {sl_read_commit : Array (Option Value)} {oc_read_commit kV_read_commit dc_read_commit pm_read_commit cd_read_commit ct_read_commit : Value}
    {a_read_times : Addr} {od_read_times an_read_times : Option Addr} {sl_read_times : Array (Option Value)} {oc_read_times kV_read_times dc_read_times pm_read_times cd_read_times ct_read_times : Value}
    {a_read_value : Addr} {od_read_value an_read_value : Option Addr} {sl_read_value : Array (Option Value)} {oc_read_value kV_read_value dc_read_value pm_read_value cd_read_value ct_read_value : Value}
    {a_read_piece : Addr} {od_read_piece an_read_piece : Option Addr} {sl_read_piece : Array (Option Value)} {oc_read_piece kV_read_piece dc_read_piece pm_read_piece cd_read_piece ct_read_piece : Value}
    {a_read_pieces : Addr} {od_read_pieces an_read_pieces : Option Addr} {sl_read_pieces : Array (Option Value)} {oc_read_pieces kV_read_pieces dc_read_pieces pm_read_pieces cd_read_pieces ct_read_pieces : Value}
    {a_end_of_run : Addr} {od_end_of_run an_end_of_run : Option Addr} {sl_end_of_run : Array (Option Value)} {oc_end_of_run kV_end_of_run dc_end_of_run pm_end_of_run cd_end_of_run ct_end_of_run : Value}
    {a_end_of_token : Addr} {od_end_of_token an_end_of_token : Option Addr} {sl_end_of_token : Array (Option Value)} {oc_end_of_token kV_end_of_token dc_end_of_token pm_end_of_token cd_end_of_token ct_end_of_token : Value}
    {a_kind_of : Addr} {od_kind_of an_kind_of : Option Addr} {sl_kind_of : Array (Option Value)} {oc_kind_of kV_kind_of dc_kind_of pm_kind_of cd_kind_of ct_kind_of : Value}
    {a_scan : Addr} {od_scan an_scan : Option Addr} {sl_scan : Array (Option Value)} {oc_scan kV_scan dc_scan pm_scan cd_scan ct_scan : Value}
    {a_parse_news : Addr} {od_parse_news an_parse_news : Option Addr} {sl_parse_news : Array (Option Value)} {oc_parse_news kV_parse_news dc_parse_news pm_parse_news cd_parse_news ct_parse_news : Value}
    {a_print_piece : Addr} {od_print_piece an_print_piece : Option Addr} {sl_print_piece : Array (Option Value)} {oc_print_piece kV_print_piece dc_print_piece pm_print_piece cd_print_piece ct_print_piece : Value}
    {a_print_news : Addr} {od_print_news an_print_news : Option Addr} {sl_print_news : Array (Option Value)} {oc_print_news kV_print_news dc_print_news pm_print_news cd_print_news ct_print_news : Value}
    {a_law : Addr} {od_law an_law : Option Addr} {sl_law : Array (Option Value)} {oc_law kV_law dc_law pm_law cd_law ct_law : Value}
    {t_BLANKS : Tok}
    {t_DIGITS : Tok}
    {t_END : Tok}
    {t_FARTHEST_VALUE : Tok}
    {t_GLUED : Tok}
    {t_LAST_VERSION : Tok}
    {t_LETTERS : Tok}
    {t_LONGEST_KEY : Tok}
    {t_MOST_PIECES : Tok}
    {t_MOST_WRITES : Tok}
    {t_NUMBER : Tok}
    {t_SEPARATOR : Tok}
    {t_WORD : Tok}
    (n_Reader : PySem.W.nsIn K mainGlobals "Reader" = some (some (.ref C_Reader)))
    (pg : PySem.W.plainGet K C_Reader Str.empty = true)
    (hd : PySem.W.hasDictIn K C_Reader = true)
    (po : PySem.W.plainOver K C_Reader = true)
    (sa : PySem.W.findIn K (.ref C_Reader) "__setattr__" = some (some (.builtin "object.__setattr__")))
    (makes : PySem.W.makesIn K C_Reader = true)
    (kc : PySem.W.keepIn K (.ref C_Reader) = true)
    (na_beyond : PySem.W.findIn K (.ref C_Reader) "beyond" = some none)
    (na_passed : PySem.W.findIn K (.ref C_Reader) "passed" = some none)
    (na_tokens : PySem.W.findIn K (.ref C_Reader) "tokens" = some none)
    (n__law_draw : PySem.W.nsIn K mainGlobals "_law_draw" = some (some (.ref a__law_draw)))
    (l__law_draw : K.lookup a__law_draw = some ⟨oc__law_draw, od__law_draw, .func (PySem.W.fnOf "_law_draw" "_law_draw" (defArgs s__law_draw) (defBody s__law_draw) (defScope s__law_draw) .none kV__law_draw dc__law_draw pm__law_draw an__law_draw cd__law_draw ct__law_draw), sl__law_draw⟩)
    (c__law_draw : PySem.W.codeIn K cd__law_draw "_law_draw" = true)
    (k__law_draw : PySem.W.keepIn K (.ref a__law_draw) = true)
    (n__law_commits : PySem.W.nsIn K mainGlobals "_law_commits" = some (some (.ref a__law_commits)))
    (l__law_commits : K.lookup a__law_commits = some ⟨oc__law_commits, od__law_commits, .func (PySem.W.fnOf "_law_commits" "_law_commits" (defArgs s__law_commits) (defBody s__law_commits) (defScope s__law_commits) .none kV__law_commits dc__law_commits pm__law_commits an__law_commits cd__law_commits ct__law_commits), sl__law_commits⟩)
    (c__law_commits : PySem.W.codeIn K cd__law_commits "_law_commits" = true)
    (k__law_commits : PySem.W.keepIn K (.ref a__law_commits) = true)
    (n__law_next : PySem.W.nsIn K mainGlobals "_law_next" = some (some (.ref a__law_next)))
    (l__law_next : K.lookup a__law_next = some ⟨oc__law_next, od__law_next, .func (PySem.W.fnOf "_law_next" "_law_next" (defArgs s__law_next) (defBody s__law_next) (defScope s__law_next) .none kV__law_next dc__law_next pm__law_next an__law_next cd__law_next ct__law_next), sl__law_next⟩)
    (c__law_next : PySem.W.codeIn K cd__law_next "_law_next" = true)
    (k__law_next : PySem.W.keepIn K (.ref a__law_next) = true)
    (n__law_bent : PySem.W.nsIn K mainGlobals "_law_bent" = some (some (.ref a__law_bent)))
    (l__law_bent : K.lookup a__law_bent = some ⟨oc__law_bent, od__law_bent, .func (PySem.W.fnOf "_law_bent" "_law_bent" (defArgs s__law_bent) (defBody s__law_bent) (defScope s__law_bent) .none kV__law_bent dc__law_bent pm__law_bent an__law_bent cd__law_bent ct__law_bent), sl__law_bent⟩)
    (c__law_bent : PySem.W.codeIn K cd__law_bent "_law_bent" = true)
    (k__law_bent : PySem.W.keepIn K (.ref a__law_bent) = true)
    (n__law_told : PySem.W.nsIn K mainGlobals "_law_told" = some (some (.ref a__law_told)))
    (l__law_told : K.lookup a__law_told = some ⟨oc__law_told, od__law_told, .func (PySem.W.fnOf "_law_told" "_law_told" (defArgs s__law_told) (defBody s__law_told) (defScope s__law_told) .none kV__law_told dc__law_told pm__law_told an__law_told cd__law_told ct__law_told), sl__law_told⟩)
    (c__law_told : PySem.W.codeIn K cd__law_told "_law_told" = true)
    (k__law_told : PySem.W.keepIn K (.ref a__law_told) = true)
    (n__law_news : PySem.W.nsIn K mainGlobals "_law_news" = some (some (.ref a__law_news)))
    (l__law_news : K.lookup a__law_news = some ⟨oc__law_news, od__law_news, .func (PySem.W.fnOf "_law_news" "_law_news" (defArgs s__law_news) (defBody s__law_news) (defScope s__law_news) .none kV__law_news dc__law_news pm__law_news an__law_news cd__law_news ct__law_news), sl__law_news⟩)
    (c__law_news : PySem.W.codeIn K cd__law_news "_law_news" = true)
    (k__law_news : PySem.W.keepIn K (.ref a__law_news) = true)
    (n__law_number : PySem.W.nsIn K mainGlobals "_law_number" = some (some (.ref a__law_number)))
    (l__law_number : K.lookup a__law_number = some ⟨oc__law_number, od__law_number, .func (PySem.W.fnOf "_law_number" "_law_number" (defArgs s__law_number) (defBody s__law_number) (defScope s__law_number) .none kV__law_number dc__law_number pm__law_number an__law_number cd__law_number ct__law_number), sl__law_number⟩)
    (c__law_number : PySem.W.codeIn K cd__law_number "_law_number" = true)
    (k__law_number : PySem.W.keepIn K (.ref a__law_number) = true)
    (n__law_print : PySem.W.nsIn K mainGlobals "_law_print" = some (some (.ref a__law_print)))
    (l__law_print : K.lookup a__law_print = some ⟨oc__law_print, od__law_print, .func (PySem.W.fnOf "_law_print" "_law_print" (defArgs s__law_print) (defBody s__law_print) (defScope s__law_print) .none kV__law_print dc__law_print pm__law_print an__law_print cd__law_print ct__law_print), sl__law_print⟩)
    (c__law_print : PySem.W.codeIn K cd__law_print "_law_print" = true)
    (k__law_print : PySem.W.keepIn K (.ref a__law_print) = true)
    (n__law_noise : PySem.W.nsIn K mainGlobals "_law_noise" = some (some (.ref a__law_noise)))
    (l__law_noise : K.lookup a__law_noise = some ⟨oc__law_noise, od__law_noise, .func (PySem.W.fnOf "_law_noise" "_law_noise" (defArgs s__law_noise) (defBody s__law_noise) (defScope s__law_noise) .none kV__law_noise dc__law_noise pm__law_noise an__law_noise cd__law_noise ct__law_noise), sl__law_noise⟩)
    (c__law_noise : PySem.W.codeIn K cd__law_noise "_law_noise" = true)
    (k__law_noise : PySem.W.keepIn K (.ref a__law_noise) = true)
    (n__law_odd : PySem.W.nsIn K mainGlobals "_law_odd" = some (some (.ref a__law_odd)))
    (l__law_odd : K.lookup a__law_odd = some ⟨oc__law_odd, od__law_odd, .func (PySem.W.fnOf "_law_odd" "_law_odd" (defArgs s__law_odd) (defBody s__law_odd) (defScope s__law_odd) .none kV__law_odd dc__law_odd pm__law_odd an__law_odd cd__law_odd ct__law_odd), sl__law_odd⟩)
    (c__law_odd : PySem.W.codeIn K cd__law_odd "_law_odd" = true)
    (k__law_odd : PySem.W.keepIn K (.ref a__law_odd) = true)
    (n__law_same : PySem.W.nsIn K mainGlobals "_law_same" = some (some (.ref a__law_same)))
    (l__law_same : K.lookup a__law_same = some ⟨oc__law_same, od__law_same, .func (PySem.W.fnOf "_law_same" "_law_same" (defArgs s__law_same) (defBody s__law_same) (defScope s__law_same) .none kV__law_same dc__law_same pm__law_same an__law_same cd__law_same ct__law_same), sl__law_same⟩)
    (c__law_same : PySem.W.codeIn K cd__law_same "_law_same" = true)
    (k__law_same : PySem.W.keepIn K (.ref a__law_same) = true)
    (n__law_shelf : PySem.W.nsIn K mainGlobals "_law_shelf" = some (some (.ref a__law_shelf)))
    (l__law_shelf : K.lookup a__law_shelf = some ⟨oc__law_shelf, od__law_shelf, .func (PySem.W.fnOf "_law_shelf" "_law_shelf" (defArgs s__law_shelf) (defBody s__law_shelf) (defScope s__law_shelf) .none kV__law_shelf dc__law_shelf pm__law_shelf an__law_shelf cd__law_shelf ct__law_shelf), sl__law_shelf⟩)
    (c__law_shelf : PySem.W.codeIn K cd__law_shelf "_law_shelf" = true)
    (k__law_shelf : PySem.W.keepIn K (.ref a__law_shelf) = true)
    (n_Reader___init__ : PySem.W.findIn K (.ref C_Reader) "__init__" = some (some (.ref a_Reader___init__)))
    (i_Reader___init__ : PySem.W.isFn K (.ref a_Reader___init__) = true)
    (l_Reader___init__ : K.lookup a_Reader___init__ = some ⟨oc_Reader___init__, od_Reader___init__, .func (PySem.W.fnOf "__init__" "Reader.__init__" (defArgs s_Reader___init__) (defBody s_Reader___init__) (defScope s_Reader___init__) .none kV_Reader___init__ dc_Reader___init__ pm_Reader___init__ an_Reader___init__ cd_Reader___init__ ct_Reader___init__), sl_Reader___init__⟩)
    (c_Reader___init__ : PySem.W.codeIn K cd_Reader___init__ "Reader.__init__" = true)
    (k_Reader___init__ : PySem.W.keepIn K (.ref a_Reader___init__) = true)
    (n_Reader_sees : PySem.W.findIn K (.ref C_Reader) "sees" = some (some (.ref a_Reader_sees)))
    (i_Reader_sees : PySem.W.isFn K (.ref a_Reader_sees) = true)
    (l_Reader_sees : K.lookup a_Reader_sees = some ⟨oc_Reader_sees, od_Reader_sees, .func (PySem.W.fnOf "sees" "Reader.sees" (defArgs s_Reader_sees) (defBody s_Reader_sees) (defScope s_Reader_sees) .none kV_Reader_sees dc_Reader_sees pm_Reader_sees an_Reader_sees cd_Reader_sees ct_Reader_sees), sl_Reader_sees⟩)
    (c_Reader_sees : PySem.W.codeIn K cd_Reader_sees "Reader.sees" = true)
    (k_Reader_sees : PySem.W.keepIn K (.ref a_Reader_sees) = true)
    (n_Reader_take : PySem.W.findIn K (.ref C_Reader) "take" = some (some (.ref a_Reader_take)))
    (i_Reader_take : PySem.W.isFn K (.ref a_Reader_take) = true)
    (l_Reader_take : K.lookup a_Reader_take = some ⟨oc_Reader_take, od_Reader_take, .func (PySem.W.fnOf "take" "Reader.take" (defArgs s_Reader_take) (defBody s_Reader_take) (defScope s_Reader_take) .none kV_Reader_take dc_Reader_take pm_Reader_take an_Reader_take cd_Reader_take ct_Reader_take), sl_Reader_take⟩)
    (c_Reader_take : PySem.W.codeIn K cd_Reader_take "Reader.take" = true)
    (k_Reader_take : PySem.W.keepIn K (.ref a_Reader_take) = true)
    (n_number_of : PySem.W.nsIn K mainGlobals "number_of" = some (some (.ref a_number_of)))
    (l_number_of : K.lookup a_number_of = some ⟨oc_number_of, od_number_of, .func (PySem.W.fnOf "number_of" "number_of" (defArgs s_number_of) (defBody s_number_of) (defScope s_number_of) .none kV_number_of dc_number_of pm_number_of an_number_of cd_number_of ct_number_of), sl_number_of⟩)
    (c_number_of : PySem.W.codeIn K cd_number_of "number_of" = true)
    (k_number_of : PySem.W.keepIn K (.ref a_number_of) = true)
    (n_Reader_take_number : PySem.W.findIn K (.ref C_Reader) "take_number" = some (some (.ref a_Reader_take_number)))
    (i_Reader_take_number : PySem.W.isFn K (.ref a_Reader_take_number) = true)
    (l_Reader_take_number : K.lookup a_Reader_take_number = some ⟨oc_Reader_take_number, od_Reader_take_number, .func (PySem.W.fnOf "take_number" "Reader.take_number" (defArgs s_Reader_take_number) (defBody s_Reader_take_number) (defScope s_Reader_take_number) .none kV_Reader_take_number dc_Reader_take_number pm_Reader_take_number an_Reader_take_number cd_Reader_take_number ct_Reader_take_number), sl_Reader_take_number⟩)
    (c_Reader_take_number : PySem.W.codeIn K cd_Reader_take_number "Reader.take_number" = true)
    (k_Reader_take_number : PySem.W.keepIn K (.ref a_Reader_take_number) = true)
    (n_Reader_sees_word : PySem.W.findIn K (.ref C_Reader) "sees_word" = some (some (.ref a_Reader_sees_word)))
    (i_Reader_sees_word : PySem.W.isFn K (.ref a_Reader_sees_word) = true)
    (l_Reader_sees_word : K.lookup a_Reader_sees_word = some ⟨oc_Reader_sees_word, od_Reader_sees_word, .func (PySem.W.fnOf "sees_word" "Reader.sees_word" (defArgs s_Reader_sees_word) (defBody s_Reader_sees_word) (defScope s_Reader_sees_word) .none kV_Reader_sees_word dc_Reader_sees_word pm_Reader_sees_word an_Reader_sees_word cd_Reader_sees_word ct_Reader_sees_word), sl_Reader_sees_word⟩)
    (c_Reader_sees_word : PySem.W.codeIn K cd_Reader_sees_word "Reader.sees_word" = true)
    (k_Reader_sees_word : PySem.W.keepIn K (.ref a_Reader_sees_word) = true)
    (n_Reader_take_word : PySem.W.findIn K (.ref C_Reader) "take_word" = some (some (.ref a_Reader_take_word)))
    (i_Reader_take_word : PySem.W.isFn K (.ref a_Reader_take_word) = true)
    (l_Reader_take_word : K.lookup a_Reader_take_word = some ⟨oc_Reader_take_word, od_Reader_take_word, .func (PySem.W.fnOf "take_word" "Reader.take_word" (defArgs s_Reader_take_word) (defBody s_Reader_take_word) (defScope s_Reader_take_word) .none kV_Reader_take_word dc_Reader_take_word pm_Reader_take_word an_Reader_take_word cd_Reader_take_word ct_Reader_take_word), sl_Reader_take_word⟩)
    (c_Reader_take_word : PySem.W.codeIn K cd_Reader_take_word "Reader.take_word" = true)
    (k_Reader_take_word : PySem.W.keepIn K (.ref a_Reader_take_word) = true)
    (n_Reader_sees_key : PySem.W.findIn K (.ref C_Reader) "sees_key" = some (some (.ref a_Reader_sees_key)))
    (i_Reader_sees_key : PySem.W.isFn K (.ref a_Reader_sees_key) = true)
    (l_Reader_sees_key : K.lookup a_Reader_sees_key = some ⟨oc_Reader_sees_key, od_Reader_sees_key, .func (PySem.W.fnOf "sees_key" "Reader.sees_key" (defArgs s_Reader_sees_key) (defBody s_Reader_sees_key) (defScope s_Reader_sees_key) .none kV_Reader_sees_key dc_Reader_sees_key pm_Reader_sees_key an_Reader_sees_key cd_Reader_sees_key ct_Reader_sees_key), sl_Reader_sees_key⟩)
    (c_Reader_sees_key : PySem.W.codeIn K cd_Reader_sees_key "Reader.sees_key" = true)
    (k_Reader_sees_key : PySem.W.keepIn K (.ref a_Reader_sees_key) = true)
    (n_Reader_take_key : PySem.W.findIn K (.ref C_Reader) "take_key" = some (some (.ref a_Reader_take_key)))
    (i_Reader_take_key : PySem.W.isFn K (.ref a_Reader_take_key) = true)
    (l_Reader_take_key : K.lookup a_Reader_take_key = some ⟨oc_Reader_take_key, od_Reader_take_key, .func (PySem.W.fnOf "take_key" "Reader.take_key" (defArgs s_Reader_take_key) (defBody s_Reader_take_key) (defScope s_Reader_take_key) .none kV_Reader_take_key dc_Reader_take_key pm_Reader_take_key an_Reader_take_key cd_Reader_take_key ct_Reader_take_key), sl_Reader_take_key⟩)
    (c_Reader_take_key : PySem.W.codeIn K cd_Reader_take_key "Reader.take_key" = true)
    (k_Reader_take_key : PySem.W.keepIn K (.ref a_Reader_take_key) = true)
    (n_Reader_take_keys : PySem.W.findIn K (.ref C_Reader) "take_keys" = some (some (.ref a_Reader_take_keys)))
    (i_Reader_take_keys : PySem.W.isFn K (.ref a_Reader_take_keys) = true)
    (l_Reader_take_keys : K.lookup a_Reader_take_keys = some ⟨oc_Reader_take_keys, od_Reader_take_keys, .func (PySem.W.fnOf "take_keys" "Reader.take_keys" (defArgs s_Reader_take_keys) (defBody s_Reader_take_keys) (defScope s_Reader_take_keys) .none kV_Reader_take_keys dc_Reader_take_keys pm_Reader_take_keys an_Reader_take_keys cd_Reader_take_keys ct_Reader_take_keys), sl_Reader_take_keys⟩)
    (c_Reader_take_keys : PySem.W.codeIn K cd_Reader_take_keys "Reader.take_keys" = true)
    (k_Reader_take_keys : PySem.W.keepIn K (.ref a_Reader_take_keys) = true)
    (n_read_commit : PySem.W.nsIn K mainGlobals "read_commit" = some (some (.ref a_read_commit)))
    (l_read_commit : K.lookup a_read_commit = some ⟨oc_read_commit, od_read_commit, .func (PySem.W.fnOf "read_commit" "read_commit" (defArgs s_read_commit) (defBody s_read_commit) (defScope s_read_commit) .none kV_read_commit dc_read_commit pm_read_commit an_read_commit cd_read_commit ct_read_commit), sl_read_commit⟩)
    (c_read_commit : PySem.W.codeIn K cd_read_commit "read_commit" = true)
    (k_read_commit : PySem.W.keepIn K (.ref a_read_commit) = true)
    (n_read_times : PySem.W.nsIn K mainGlobals "read_times" = some (some (.ref a_read_times)))
    (l_read_times : K.lookup a_read_times = some ⟨oc_read_times, od_read_times, .func (PySem.W.fnOf "read_times" "read_times" (defArgs s_read_times) (defBody s_read_times) (defScope s_read_times) .none kV_read_times dc_read_times pm_read_times an_read_times cd_read_times ct_read_times), sl_read_times⟩)
    (c_read_times : PySem.W.codeIn K cd_read_times "read_times" = true)
    (k_read_times : PySem.W.keepIn K (.ref a_read_times) = true)
    (n_read_value : PySem.W.nsIn K mainGlobals "read_value" = some (some (.ref a_read_value)))
    (l_read_value : K.lookup a_read_value = some ⟨oc_read_value, od_read_value, .func (PySem.W.fnOf "read_value" "read_value" (defArgs s_read_value) (defBody s_read_value) (defScope s_read_value) .none kV_read_value dc_read_value pm_read_value an_read_value cd_read_value ct_read_value), sl_read_value⟩)
    (c_read_value : PySem.W.codeIn K cd_read_value "read_value" = true)
    (k_read_value : PySem.W.keepIn K (.ref a_read_value) = true)
    (n_read_piece : PySem.W.nsIn K mainGlobals "read_piece" = some (some (.ref a_read_piece)))
    (l_read_piece : K.lookup a_read_piece = some ⟨oc_read_piece, od_read_piece, .func (PySem.W.fnOf "read_piece" "read_piece" (defArgs s_read_piece) (defBody s_read_piece) (defScope s_read_piece) .none kV_read_piece dc_read_piece pm_read_piece an_read_piece cd_read_piece ct_read_piece), sl_read_piece⟩)
    (c_read_piece : PySem.W.codeIn K cd_read_piece "read_piece" = true)
    (k_read_piece : PySem.W.keepIn K (.ref a_read_piece) = true)
    (n_read_pieces : PySem.W.nsIn K mainGlobals "read_pieces" = some (some (.ref a_read_pieces)))
    (l_read_pieces : K.lookup a_read_pieces = some ⟨oc_read_pieces, od_read_pieces, .func (PySem.W.fnOf "read_pieces" "read_pieces" (defArgs s_read_pieces) (defBody s_read_pieces) (defScope s_read_pieces) .none kV_read_pieces dc_read_pieces pm_read_pieces an_read_pieces cd_read_pieces ct_read_pieces), sl_read_pieces⟩)
    (c_read_pieces : PySem.W.codeIn K cd_read_pieces "read_pieces" = true)
    (k_read_pieces : PySem.W.keepIn K (.ref a_read_pieces) = true)
    (n_end_of_run : PySem.W.nsIn K mainGlobals "end_of_run" = some (some (.ref a_end_of_run)))
    (l_end_of_run : K.lookup a_end_of_run = some ⟨oc_end_of_run, od_end_of_run, .func (PySem.W.fnOf "end_of_run" "end_of_run" (defArgs s_end_of_run) (defBody s_end_of_run) (defScope s_end_of_run) .none kV_end_of_run dc_end_of_run pm_end_of_run an_end_of_run cd_end_of_run ct_end_of_run), sl_end_of_run⟩)
    (c_end_of_run : PySem.W.codeIn K cd_end_of_run "end_of_run" = true)
    (k_end_of_run : PySem.W.keepIn K (.ref a_end_of_run) = true)
    (n_end_of_token : PySem.W.nsIn K mainGlobals "end_of_token" = some (some (.ref a_end_of_token)))
    (l_end_of_token : K.lookup a_end_of_token = some ⟨oc_end_of_token, od_end_of_token, .func (PySem.W.fnOf "end_of_token" "end_of_token" (defArgs s_end_of_token) (defBody s_end_of_token) (defScope s_end_of_token) .none kV_end_of_token dc_end_of_token pm_end_of_token an_end_of_token cd_end_of_token ct_end_of_token), sl_end_of_token⟩)
    (c_end_of_token : PySem.W.codeIn K cd_end_of_token "end_of_token" = true)
    (k_end_of_token : PySem.W.keepIn K (.ref a_end_of_token) = true)
    (n_kind_of : PySem.W.nsIn K mainGlobals "kind_of" = some (some (.ref a_kind_of)))
    (l_kind_of : K.lookup a_kind_of = some ⟨oc_kind_of, od_kind_of, .func (PySem.W.fnOf "kind_of" "kind_of" (defArgs s_kind_of) (defBody s_kind_of) (defScope s_kind_of) .none kV_kind_of dc_kind_of pm_kind_of an_kind_of cd_kind_of ct_kind_of), sl_kind_of⟩)
    (c_kind_of : PySem.W.codeIn K cd_kind_of "kind_of" = true)
    (k_kind_of : PySem.W.keepIn K (.ref a_kind_of) = true)
    (n_scan : PySem.W.nsIn K mainGlobals "scan" = some (some (.ref a_scan)))
    (l_scan : K.lookup a_scan = some ⟨oc_scan, od_scan, .func (PySem.W.fnOf "scan" "scan" (defArgs s_scan) (defBody s_scan) (defScope s_scan) .none kV_scan dc_scan pm_scan an_scan cd_scan ct_scan), sl_scan⟩)
    (c_scan : PySem.W.codeIn K cd_scan "scan" = true)
    (k_scan : PySem.W.keepIn K (.ref a_scan) = true)
    (n_parse_news : PySem.W.nsIn K mainGlobals "parse_news" = some (some (.ref a_parse_news)))
    (l_parse_news : K.lookup a_parse_news = some ⟨oc_parse_news, od_parse_news, .func (PySem.W.fnOf "parse_news" "parse_news" (defArgs s_parse_news) (defBody s_parse_news) (defScope s_parse_news) .none kV_parse_news dc_parse_news pm_parse_news an_parse_news cd_parse_news ct_parse_news), sl_parse_news⟩)
    (c_parse_news : PySem.W.codeIn K cd_parse_news "parse_news" = true)
    (k_parse_news : PySem.W.keepIn K (.ref a_parse_news) = true)
    (n_print_piece : PySem.W.nsIn K mainGlobals "print_piece" = some (some (.ref a_print_piece)))
    (l_print_piece : K.lookup a_print_piece = some ⟨oc_print_piece, od_print_piece, .func (PySem.W.fnOf "print_piece" "print_piece" (defArgs s_print_piece) (defBody s_print_piece) (defScope s_print_piece) .none kV_print_piece dc_print_piece pm_print_piece an_print_piece cd_print_piece ct_print_piece), sl_print_piece⟩)
    (c_print_piece : PySem.W.codeIn K cd_print_piece "print_piece" = true)
    (k_print_piece : PySem.W.keepIn K (.ref a_print_piece) = true)
    (n_print_news : PySem.W.nsIn K mainGlobals "print_news" = some (some (.ref a_print_news)))
    (l_print_news : K.lookup a_print_news = some ⟨oc_print_news, od_print_news, .func (PySem.W.fnOf "print_news" "print_news" (defArgs s_print_news) (defBody s_print_news) (defScope s_print_news) .none kV_print_news dc_print_news pm_print_news an_print_news cd_print_news ct_print_news), sl_print_news⟩)
    (c_print_news : PySem.W.codeIn K cd_print_news "print_news" = true)
    (k_print_news : PySem.W.keepIn K (.ref a_print_news) = true)
    (n_law : PySem.W.nsIn K mainGlobals "law" = some (some (.ref a_law)))
    (l_law : K.lookup a_law = some ⟨oc_law, od_law, .func (PySem.W.fnOf "law" "law" (defArgs s_law) (defBody s_law) (defScope s_law) .none kV_law dc_law pm_law an_law cd_law ct_law), sl_law⟩)
    (c_law : PySem.W.codeIn K cd_law "law" = true)
    (k_law : PySem.W.keepIn K (.ref a_law) = true)
    (z_abs : PySem.W.nsIn K mainGlobals "abs" = some none)
    (z_all : PySem.W.nsIn K mainGlobals "all" = some none)
    (z_bool : PySem.W.nsIn K mainGlobals "bool" = some none)
    (z_int : PySem.W.nsIn K mainGlobals "int" = some none)
    (z_isinstance : PySem.W.nsIn K mainGlobals "isinstance" = some none)
    (z_len : PySem.W.nsIn K mainGlobals "len" = some none)
    (z_list : PySem.W.nsIn K mainGlobals "list" = some none)
    (z_max : PySem.W.nsIn K mainGlobals "max" = some none)
    (z_range : PySem.W.nsIn K mainGlobals "range" = some none)
    (z_set : PySem.W.nsIn K mainGlobals "set" = some none)
    (z_sorted : PySem.W.nsIn K mainGlobals "sorted" = some none)
    (z_str : PySem.W.nsIn K mainGlobals "str" = some none)
    (z_tuple : PySem.W.nsIn K mainGlobals "tuple" = some none)
    (g_BLANKS : PySem.W.nsIn K mainGlobals "BLANKS" = some (some (.str " \n" t_BLANKS)))
    (g_DIGITS : PySem.W.nsIn K mainGlobals "DIGITS" = some (some (.str "0123456789" t_DIGITS)))
    (g_END : PySem.W.nsIn K mainGlobals "END" = some (some (.str "end" t_END)))
    (g_FARTHEST_VALUE : PySem.W.nsIn K mainGlobals "FARTHEST_VALUE" = some (some (.int 1000000 t_FARTHEST_VALUE)))
    (g_GLUED : PySem.W.nsIn K mainGlobals "GLUED" = some (some (.str "glued" t_GLUED)))
    (g_LAST_VERSION : PySem.W.nsIn K mainGlobals "LAST_VERSION" = some (some (.int 20 t_LAST_VERSION)))
    (g_LETTERS : PySem.W.nsIn K mainGlobals "LETTERS" = some (some (.str "abcdefghijklmnopqrstuvwxyz" t_LETTERS)))
    (g_LONGEST_KEY : PySem.W.nsIn K mainGlobals "LONGEST_KEY" = some (some (.int 8 t_LONGEST_KEY)))
    (g_MOST_PIECES : PySem.W.nsIn K mainGlobals "MOST_PIECES" = some (some (.int 40 t_MOST_PIECES)))
    (g_MOST_WRITES : PySem.W.nsIn K mainGlobals "MOST_WRITES" = some (some (.int 20 t_MOST_WRITES)))
    (g_NUMBER : PySem.W.nsIn K mainGlobals "NUMBER" = some (some (.str "number" t_NUMBER)))
    (g_SEPARATOR : PySem.W.nsIn K mainGlobals "SEPARATOR" = some (some (.str "separator" t_SEPARATOR)))
    (g_WORD : PySem.W.nsIn K mainGlobals "WORD" = some (some (.str "word" t_WORD)))
    : ∃ fd : FuncData, (∀ (s : Shared) (v : Value), BindsTo s fd ⟨[v], []⟩ [("script", v)]) ∧ ∀ base : Heap, K.In base → base.Ns mainGlobals mg → FnOk l.prog w K mg base CX0 9 fa fd ["script"] (spD K C_law) := by
  have e := hfa.symm.trans (PySem.W.mg_of X G n_law)
  cases e
  have F__law_draw := fun_mk (st := s__law_draw) l__law_draw c__law_draw k__law_draw
  have v__law_draw := F__law_draw.binds (ps := ["script"]) fun _ _ _ _ _ _ us hl => match us, hl with | [_], _ => rfl
  have F__law_commits := fun_mk (st := s__law_commits) l__law_commits c__law_commits k__law_commits
  have v__law_commits := F__law_commits.binds (ps := ["shelf"]) fun _ _ _ _ _ _ us hl => match us, hl with | [_], _ => rfl
  have F__law_next := fun_mk (st := s__law_next) l__law_next c__law_next k__law_next
  have v__law_next := F__law_next.binds (ps := ["draw", "many"]) fun _ _ _ _ _ _ us hl => match us, hl with | [_, _], _ => rfl
  have F__law_bent := fun_mk (st := s__law_bent) l__law_bent c__law_bent k__law_bent
  have v__law_bent := F__law_bent.binds (ps := ["draw", "shelf", "piece"]) fun _ _ _ _ _ _ us hl => match us, hl with | [_, _, _], _ => rfl
  have F__law_told := fun_mk (st := s__law_told) l__law_told c__law_told k__law_told
  have v__law_told := F__law_told.binds (ps := ["draw", "shelf", "table", "most"]) fun _ _ _ _ _ _ us hl => match us, hl with | [_, _, _, _], _ => rfl
  have F__law_news := fun_mk (st := s__law_news) l__law_news c__law_news k__law_news
  have v__law_news := F__law_news.binds (ps := ["draw", "shelf", "most", "many", "bends"]) fun _ _ _ _ _ _ us hl => match us, hl with | [_, _, _, _, _], _ => rfl
  have F__law_number := fun_mk (st := s__law_number) l__law_number c__law_number k__law_number
  have v__law_number := F__law_number.binds (ps := ["draw", "text"]) fun _ _ _ _ _ _ us hl => match us, hl with | [_, _], _ => rfl
  have F__law_print := fun_mk (st := s__law_print) l__law_print c__law_print k__law_print
  have v__law_print := F__law_print.binds (ps := ["piece"]) fun _ _ _ _ _ _ us hl => match us, hl with | [_], _ => rfl
  have F__law_noise := fun_mk (st := s__law_noise) l__law_noise c__law_noise k__law_noise
  have v__law_noise := F__law_noise.binds (ps := ["draw", "piece"]) fun _ _ _ _ _ _ us hl => match us, hl with | [_, _], _ => rfl
  have F__law_odd := fun_mk (st := s__law_odd) l__law_odd c__law_odd k__law_odd
  have v__law_odd := F__law_odd.binds (ps := ["draw", "piece"]) fun _ _ _ _ _ _ us hl => match us, hl with | [_, _], _ => rfl
  have F__law_same := fun_mk (st := s__law_same) l__law_same c__law_same k__law_same
  have v__law_same := F__law_same.binds (ps := ["actual", "due"]) fun _ _ _ _ _ _ us hl => match us, hl with | [_, _], _ => rfl
  have F__law_shelf := fun_mk (st := s__law_shelf) l__law_shelf c__law_shelf k__law_shelf
  have v__law_shelf := F__law_shelf.binds (ps := ["draw"]) fun _ _ _ _ _ _ us hl => match us, hl with | [_], _ => rfl
  have F_Reader___init__ := fun_mk (st := s_Reader___init__) l_Reader___init__ c_Reader___init__ k_Reader___init__
  have v_Reader___init__ := F_Reader___init__.binds (ps := ["self", "tokens"]) fun _ _ _ _ _ _ us hl => match us, hl with | [_, _], _ => rfl
  have F_Reader_sees := fun_mk (st := s_Reader_sees) l_Reader_sees c_Reader_sees k_Reader_sees
  have v_Reader_sees := F_Reader_sees.binds (ps := ["self", "kind"]) fun _ _ _ _ _ _ us hl => match us, hl with | [_, _], _ => rfl
  have F_Reader_take := fun_mk (st := s_Reader_take) l_Reader_take c_Reader_take k_Reader_take
  have v_Reader_take := F_Reader_take.binds (ps := ["self", "fits"]) fun _ _ _ _ _ _ us hl => match us, hl with | [_, _], _ => rfl
  have F_number_of := fun_mk (st := s_number_of) l_number_of c_number_of k_number_of
  have v_number_of := F_number_of.binds (ps := ["word"]) fun _ _ _ _ _ _ us hl => match us, hl with | [_], _ => rfl
  have F_Reader_take_number := fun_mk (st := s_Reader_take_number) l_Reader_take_number c_Reader_take_number k_Reader_take_number
  have v_Reader_take_number := F_Reader_take_number.binds (ps := ["self", "least", "greatest"]) fun _ _ _ _ _ _ us hl => match us, hl with | [_, _, _], _ => rfl
  have F_Reader_sees_word := fun_mk (st := s_Reader_sees_word) l_Reader_sees_word c_Reader_sees_word k_Reader_sees_word
  have v_Reader_sees_word := F_Reader_sees_word.binds (ps := ["self", "choices"]) fun _ _ _ _ _ _ us hl => match us, hl with | [_, _], _ => rfl
  have F_Reader_take_word := fun_mk (st := s_Reader_take_word) l_Reader_take_word c_Reader_take_word k_Reader_take_word
  have v_Reader_take_word := F_Reader_take_word.binds (ps := ["self", "choices"]) fun _ _ _ _ _ _ us hl => match us, hl with | [_, _], _ => rfl
  have F_Reader_sees_key := fun_mk (st := s_Reader_sees_key) l_Reader_sees_key c_Reader_sees_key k_Reader_sees_key
  have v_Reader_sees_key := F_Reader_sees_key.binds (ps := ["self"]) fun _ _ _ _ _ _ us hl => match us, hl with | [_], _ => rfl
  have F_Reader_take_key := fun_mk (st := s_Reader_take_key) l_Reader_take_key c_Reader_take_key k_Reader_take_key
  have v_Reader_take_key := F_Reader_take_key.binds (ps := ["self"]) fun _ _ _ _ _ _ us hl => match us, hl with | [_], _ => rfl
  have F_Reader_take_keys := fun_mk (st := s_Reader_take_keys) l_Reader_take_keys c_Reader_take_keys k_Reader_take_keys
  have v_Reader_take_keys := F_Reader_take_keys.binds (ps := ["self"]) fun _ _ _ _ _ _ us hl => match us, hl with | [_], _ => rfl
  have F_read_commit := fun_mk (st := s_read_commit) l_read_commit c_read_commit k_read_commit
  have v_read_commit := F_read_commit.binds (ps := ["reader"]) fun _ _ _ _ _ _ us hl => match us, hl with | [_], _ => rfl
  have F_read_times := fun_mk (st := s_read_times) l_read_times c_read_times k_read_times
  have v_read_times := F_read_times.binds (ps := ["reader"]) fun _ _ _ _ _ _ us hl => match us, hl with | [_], _ => rfl
  have F_read_value := fun_mk (st := s_read_value) l_read_value c_read_value k_read_value
  have v_read_value := F_read_value.binds (ps := ["reader"]) fun _ _ _ _ _ _ us hl => match us, hl with | [_], _ => rfl
  have F_read_piece := fun_mk (st := s_read_piece) l_read_piece c_read_piece k_read_piece
  have v_read_piece := F_read_piece.binds (ps := ["reader"]) fun _ _ _ _ _ _ us hl => match us, hl with | [_], _ => rfl
  have F_read_pieces := fun_mk (st := s_read_pieces) l_read_pieces c_read_pieces k_read_pieces
  have v_read_pieces := F_read_pieces.binds (ps := ["reader"]) fun _ _ _ _ _ _ us hl => match us, hl with | [_], _ => rfl
  have F_end_of_run := fun_mk (st := s_end_of_run) l_end_of_run c_end_of_run k_end_of_run
  have v_end_of_run := F_end_of_run.binds (ps := ["text", "start", "alphabet"]) fun _ _ _ _ _ _ us hl => match us, hl with | [_, _, _], _ => rfl
  have F_end_of_token := fun_mk (st := s_end_of_token) l_end_of_token c_end_of_token k_end_of_token
  have v_end_of_token := F_end_of_token.binds (ps := ["text", "start"]) fun _ _ _ _ _ _ us hl => match us, hl with | [_, _], _ => rfl
  have F_kind_of := fun_mk (st := s_kind_of) l_kind_of c_kind_of k_kind_of
  have v_kind_of := F_kind_of.binds (ps := ["text", "start"]) fun _ _ _ _ _ _ us hl => match us, hl with | [_, _], _ => rfl
  have F_scan := fun_mk (st := s_scan) l_scan c_scan k_scan
  have v_scan := F_scan.binds (ps := ["text"]) fun _ _ _ _ _ _ us hl => match us, hl with | [_], _ => rfl
  have F_parse_news := fun_mk (st := s_parse_news) l_parse_news c_parse_news k_parse_news
  have v_parse_news := F_parse_news.binds (ps := ["text"]) fun _ _ _ _ _ _ us hl => match us, hl with | [_], _ => rfl
  have F_print_piece := fun_mk (st := s_print_piece) l_print_piece c_print_piece k_print_piece
  have v_print_piece := F_print_piece.binds (ps := ["piece"]) fun _ _ _ _ _ _ us hl => match us, hl with | [_], _ => rfl
  have F_print_news := fun_mk (st := s_print_news) l_print_news c_print_news k_print_news
  have v_print_news := F_print_news.binds (ps := ["news"]) fun _ _ _ _ _ _ us hl => match us, hl with | [_], _ => rfl
  have F_law := fun_mk (st := s_law) l_law c_law k_law
  have v_law := F_law.binds (ps := ["script"]) fun _ _ _ _ _ _ us hl => match us, hl with | [_], _ => rfl
  exact ⟨_, fun s v => .of_eq rfl, fun base _ _ => ok_law { C_Reader := C_Reader, cl_Reader := ⟨pg, hd, po, sa⟩, mC_Reader := PySem.W.mg_of X G n_Reader, mk_Reader := ⟨makes, n_Reader___init__, i_Reader___init__, kc⟩, na_Reader_beyond := na_beyond, na_Reader_passed := na_passed, na_Reader_tokens := na_tokens, a__law_draw := a__law_draw, d__law_draw := _, F__law_draw := F__law_draw, m__law_draw := PySem.W.mg_of X G n__law_draw, v__law_draw := v__law_draw, k__law_draw := k__law_draw, a__law_commits := a__law_commits, d__law_commits := _, F__law_commits := F__law_commits, m__law_commits := PySem.W.mg_of X G n__law_commits, v__law_commits := v__law_commits, k__law_commits := k__law_commits, a__law_next := a__law_next, d__law_next := _, F__law_next := F__law_next, m__law_next := PySem.W.mg_of X G n__law_next, v__law_next := v__law_next, k__law_next := k__law_next, a__law_bent := a__law_bent, d__law_bent := _, F__law_bent := F__law_bent, m__law_bent := PySem.W.mg_of X G n__law_bent, v__law_bent := v__law_bent, k__law_bent := k__law_bent, a__law_told := a__law_told, d__law_told := _, F__law_told := F__law_told, m__law_told := PySem.W.mg_of X G n__law_told, v__law_told := v__law_told, k__law_told := k__law_told, a__law_news := a__law_news, d__law_news := _, F__law_news := F__law_news, m__law_news := PySem.W.mg_of X G n__law_news, v__law_news := v__law_news, k__law_news := k__law_news, a__law_number := a__law_number, d__law_number := _, F__law_number := F__law_number, m__law_number := PySem.W.mg_of X G n__law_number, v__law_number := v__law_number, k__law_number := k__law_number, a__law_print := a__law_print, d__law_print := _, F__law_print := F__law_print, m__law_print := PySem.W.mg_of X G n__law_print, v__law_print := v__law_print, k__law_print := k__law_print, a__law_noise := a__law_noise, d__law_noise := _, F__law_noise := F__law_noise, m__law_noise := PySem.W.mg_of X G n__law_noise, v__law_noise := v__law_noise, k__law_noise := k__law_noise, a__law_odd := a__law_odd, d__law_odd := _, F__law_odd := F__law_odd, m__law_odd := PySem.W.mg_of X G n__law_odd, v__law_odd := v__law_odd, k__law_odd := k__law_odd, a__law_same := a__law_same, d__law_same := _, F__law_same := F__law_same, m__law_same := PySem.W.mg_of X G n__law_same, v__law_same := v__law_same, k__law_same := k__law_same, a__law_shelf := a__law_shelf, d__law_shelf := _, F__law_shelf := F__law_shelf, m__law_shelf := PySem.W.mg_of X G n__law_shelf, v__law_shelf := v__law_shelf, k__law_shelf := k__law_shelf, a_Reader___init__ := a_Reader___init__, d_Reader___init__ := _, F_Reader___init__ := F_Reader___init__, v_Reader___init__ := v_Reader___init__, mt_Reader___init__ := ⟨n_Reader___init__, i_Reader___init__, k_Reader___init__⟩, a_Reader_sees := a_Reader_sees, d_Reader_sees := _, F_Reader_sees := F_Reader_sees, v_Reader_sees := v_Reader_sees, mt_Reader_sees := ⟨n_Reader_sees, i_Reader_sees, k_Reader_sees⟩, a_Reader_take := a_Reader_take, d_Reader_take := _, F_Reader_take := F_Reader_take, v_Reader_take := v_Reader_take, mt_Reader_take := ⟨n_Reader_take, i_Reader_take, k_Reader_take⟩, a_number_of := a_number_of, d_number_of := _, F_number_of := F_number_of, m_number_of := PySem.W.mg_of X G n_number_of, v_number_of := v_number_of, k_number_of := k_number_of, a_Reader_take_number := a_Reader_take_number, d_Reader_take_number := _, F_Reader_take_number := F_Reader_take_number, v_Reader_take_number := v_Reader_take_number, mt_Reader_take_number := ⟨n_Reader_take_number, i_Reader_take_number, k_Reader_take_number⟩, a_Reader_sees_word := a_Reader_sees_word, d_Reader_sees_word := _, F_Reader_sees_word := F_Reader_sees_word, v_Reader_sees_word := v_Reader_sees_word, mt_Reader_sees_word := ⟨n_Reader_sees_word, i_Reader_sees_word, k_Reader_sees_word⟩, a_Reader_take_word := a_Reader_take_word, d_Reader_take_word := _, F_Reader_take_word := F_Reader_take_word, v_Reader_take_word := v_Reader_take_word, mt_Reader_take_word := ⟨n_Reader_take_word, i_Reader_take_word, k_Reader_take_word⟩, a_Reader_sees_key := a_Reader_sees_key, d_Reader_sees_key := _, F_Reader_sees_key := F_Reader_sees_key, v_Reader_sees_key := v_Reader_sees_key, mt_Reader_sees_key := ⟨n_Reader_sees_key, i_Reader_sees_key, k_Reader_sees_key⟩, a_Reader_take_key := a_Reader_take_key, d_Reader_take_key := _, F_Reader_take_key := F_Reader_take_key, v_Reader_take_key := v_Reader_take_key, mt_Reader_take_key := ⟨n_Reader_take_key, i_Reader_take_key, k_Reader_take_key⟩, a_Reader_take_keys := a_Reader_take_keys, d_Reader_take_keys := _, F_Reader_take_keys := F_Reader_take_keys, v_Reader_take_keys := v_Reader_take_keys, mt_Reader_take_keys := ⟨n_Reader_take_keys, i_Reader_take_keys, k_Reader_take_keys⟩, a_read_commit := a_read_commit, d_read_commit := _, F_read_commit := F_read_commit, m_read_commit := PySem.W.mg_of X G n_read_commit, v_read_commit := v_read_commit, k_read_commit := k_read_commit, a_read_times := a_read_times, d_read_times := _, F_read_times := F_read_times, m_read_times := PySem.W.mg_of X G n_read_times, v_read_times := v_read_times, k_read_times := k_read_times, a_read_value := a_read_value, d_read_value := _, F_read_value := F_read_value, m_read_value := PySem.W.mg_of X G n_read_value, v_read_value := v_read_value, k_read_value := k_read_value, a_read_piece := a_read_piece, d_read_piece := _, F_read_piece := F_read_piece, m_read_piece := PySem.W.mg_of X G n_read_piece, v_read_piece := v_read_piece, k_read_piece := k_read_piece, a_read_pieces := a_read_pieces, d_read_pieces := _, F_read_pieces := F_read_pieces, m_read_pieces := PySem.W.mg_of X G n_read_pieces, v_read_pieces := v_read_pieces, k_read_pieces := k_read_pieces, a_end_of_run := a_end_of_run, d_end_of_run := _, F_end_of_run := F_end_of_run, m_end_of_run := PySem.W.mg_of X G n_end_of_run, v_end_of_run := v_end_of_run, k_end_of_run := k_end_of_run, a_end_of_token := a_end_of_token, d_end_of_token := _, F_end_of_token := F_end_of_token, m_end_of_token := PySem.W.mg_of X G n_end_of_token, v_end_of_token := v_end_of_token, k_end_of_token := k_end_of_token, a_kind_of := a_kind_of, d_kind_of := _, F_kind_of := F_kind_of, m_kind_of := PySem.W.mg_of X G n_kind_of, v_kind_of := v_kind_of, k_kind_of := k_kind_of, a_scan := a_scan, d_scan := _, F_scan := F_scan, m_scan := PySem.W.mg_of X G n_scan, v_scan := v_scan, k_scan := k_scan, a_parse_news := a_parse_news, d_parse_news := _, F_parse_news := F_parse_news, m_parse_news := PySem.W.mg_of X G n_parse_news, v_parse_news := v_parse_news, k_parse_news := k_parse_news, a_print_piece := a_print_piece, d_print_piece := _, F_print_piece := F_print_piece, m_print_piece := PySem.W.mg_of X G n_print_piece, v_print_piece := v_print_piece, k_print_piece := k_print_piece, a_print_news := a_print_news, d_print_news := _, F_print_news := F_print_news, m_print_news := PySem.W.mg_of X G n_print_news, v_print_news := v_print_news, k_print_news := k_print_news, a_law := _, d_law := _, F_law := F_law, m_law := PySem.W.mg_of X G n_law, v_law := v_law, k_law := k_law, b_abs := PySem.W.mg_none_of X G z_abs, b_all := PySem.W.mg_none_of X G z_all, b_bool := PySem.W.mg_none_of X G z_bool, b_int := PySem.W.mg_none_of X G z_int, b_isinstance := PySem.W.mg_none_of X G z_isinstance, b_len := PySem.W.mg_none_of X G z_len, b_list := PySem.W.mg_none_of X G z_list, b_max := PySem.W.mg_none_of X G z_max, b_range := PySem.W.mg_none_of X G z_range, b_set := PySem.W.mg_none_of X G z_set, b_sorted := PySem.W.mg_none_of X G z_sorted, b_str := PySem.W.mg_none_of X G z_str, b_tuple := PySem.W.mg_none_of X G z_tuple, t_BLANKS := t_BLANKS, g_BLANKS := PySem.W.mg_of X G g_BLANKS, t_DIGITS := t_DIGITS, g_DIGITS := PySem.W.mg_of X G g_DIGITS, t_END := t_END, g_END := PySem.W.mg_of X G g_END, t_FARTHEST_VALUE := t_FARTHEST_VALUE, g_FARTHEST_VALUE := PySem.W.mg_of X G g_FARTHEST_VALUE, t_GLUED := t_GLUED, g_GLUED := PySem.W.mg_of X G g_GLUED, t_LAST_VERSION := t_LAST_VERSION, g_LAST_VERSION := PySem.W.mg_of X G g_LAST_VERSION, t_LETTERS := t_LETTERS, g_LETTERS := PySem.W.mg_of X G g_LETTERS, t_LONGEST_KEY := t_LONGEST_KEY, g_LONGEST_KEY := PySem.W.mg_of X G g_LONGEST_KEY, t_MOST_PIECES := t_MOST_PIECES, g_MOST_PIECES := PySem.W.mg_of X G g_MOST_PIECES, t_MOST_WRITES := t_MOST_WRITES, g_MOST_WRITES := PySem.W.mg_of X G g_MOST_WRITES, t_NUMBER := t_NUMBER, g_NUMBER := PySem.W.mg_of X G g_NUMBER, t_SEPARATOR := t_SEPARATOR, g_SEPARATOR := PySem.W.mg_of X G g_SEPARATOR, t_WORD := t_WORD, g_WORD := PySem.W.mg_of X G g_WORD }⟩
theorem walk {l : PySem.W.OpenLaw} {q : Program} {loose : List Str} {XP : (Str → Option Value) → Heap → Prop} {YP : World → Heap → Prop} {d : DefRec} {K : Params → PySem.W.Frag} (hn : l.most = some 63) (hdf : d.params.defaults = [])
    (hY : ∀ (w : World) (h : Heap), YP w h → (K w.params).In h)
    (F : ∀ (w : World) (mg : Str → Option Value) (fa : Addr) (h : Heap), (K w.params).In h → h.Ns mainGlobals mg → mg d.name = some (.ref fa) →
      ∃ fd : FuncData, (∀ (s : Shared) (u : Value), BindsTo s fd ⟨[u], []⟩ [("script", u)]) ∧ ∀ base : Heap, (K w.params).In base → base.Ns mainGlobals mg → FnOk l.prog w (K w.params) mg base CX0 9 fa fd ["script"] (spD (K w.params) C_law)) :
    PySem.W.WalkO q loose XP YP l.row.toRowW d [] (fun f vs => PySem.call f vs) :=
  L2.walk_of (n := 63) (k := 9) (x := "script") (CX := fun _ => CX0) (sp := fun w => spD (K w.params) C_law) hn (by decide) hdf ⟨rfl, by decide, by decide⟩ hY F (fun _ H a ns hl _ hS => sp_law H a ns hl hS) fun _ _ _ _ _ z => z
end K41
open PySem PySem.W PyProof.Rows
set_option maxRecDepth 100000 in
set_option maxHeartbeats 0 in
theorem PySem.Challenge.cw_suresnap_k41_news_is_read_and_printed_holds : PySem.Challenge.rw_suresnap_k41_news_is_read_and_printed.Holds := by
  w_on; o_law; k_head; (case hw => w_witness2)
  k_fill
  refine K41.walk (l := PySem.Challenge.rw_suresnap_k41_news_is_read_and_printed) rfl rfl (fun w h Y => PySem.W.kIn_of Y) ?F
  case F =>
    intro w mg fa h KX G hmg
    refine' K41.all_mk KX G hmg ?n_Reader ?pg ?hd ?po ?sa ?makes ?kc ?na_beyond ?na_passed ?na_tokens ?n__law_draw ?l__law_draw ?c__law_draw ?k__law_draw ?n__law_commits ?l__law_commits ?c__law_commits ?k__law_commits ?n__law_next ?l__law_next ?c__law_next ?k__law_next ?n__law_bent ?l__law_bent ?c__law_bent ?k__law_bent ?n__law_told ?l__law_told ?c__law_told ?k__law_told ?n__law_news ?l__law_news ?c__law_news ?k__law_news ?n__law_number ?l__law_number ?c__law_number ?k__law_number ?n__law_print ?l__law_print ?c__law_print ?k__law_print ?n__law_noise ?l__law_noise ?c__law_noise ?k__law_noise ?n__law_odd ?l__law_odd ?c__law_odd ?k__law_odd ?n__law_same ?l__law_same ?c__law_same ?k__law_same ?n__law_shelf ?l__law_shelf ?c__law_shelf ?k__law_shelf ?n_Reader___init__ ?i_Reader___init__ ?l_Reader___init__ ?c_Reader___init__ ?k_Reader___init__ ?n_Reader_sees ?i_Reader_sees ?l_Reader_sees ?c_Reader_sees ?k_Reader_sees ?n_Reader_take ?i_Reader_take ?l_Reader_take ?c_Reader_take ?k_Reader_take ?n_number_of ?l_number_of ?c_number_of ?k_number_of ?n_Reader_take_number ?i_Reader_take_number ?l_Reader_take_number ?c_Reader_take_number ?k_Reader_take_number ?n_Reader_sees_word ?i_Reader_sees_word ?l_Reader_sees_word ?c_Reader_sees_word ?k_Reader_sees_word ?n_Reader_take_word ?i_Reader_take_word ?l_Reader_take_word ?c_Reader_take_word ?k_Reader_take_word ?n_Reader_sees_key ?i_Reader_sees_key ?l_Reader_sees_key ?c_Reader_sees_key ?k_Reader_sees_key ?n_Reader_take_key ?i_Reader_take_key ?l_Reader_take_key ?c_Reader_take_key ?k_Reader_take_key ?n_Reader_take_keys ?i_Reader_take_keys ?l_Reader_take_keys ?c_Reader_take_keys ?k_Reader_take_keys ?n_read_commit ?l_read_commit ?c_read_commit ?k_read_commit ?n_read_times ?l_read_times ?c_read_times ?k_read_times ?n_read_value ?l_read_value ?c_read_value ?k_read_value ?n_read_piece ?l_read_piece ?c_read_piece ?k_read_piece ?n_read_pieces ?l_read_pieces ?c_read_pieces ?k_read_pieces ?n_end_of_run ?l_end_of_run ?c_end_of_run ?k_end_of_run ?n_end_of_token ?l_end_of_token ?c_end_of_token ?k_end_of_token ?n_kind_of ?l_kind_of ?c_kind_of ?k_kind_of ?n_scan ?l_scan ?c_scan ?k_scan ?n_parse_news ?l_parse_news ?c_parse_news ?k_parse_news ?n_print_piece ?l_print_piece ?c_print_piece ?k_print_piece ?n_print_news ?l_print_news ?c_print_news ?k_print_news ?n_law ?l_law ?c_law ?k_law ?z_abs ?z_all ?z_bool ?z_int ?z_isinstance ?z_len ?z_list ?z_max ?z_range ?z_set ?z_sorted ?z_str ?z_tuple ?g_BLANKS ?g_DIGITS ?g_END ?g_FARTHEST_VALUE ?g_GLUED ?g_LAST_VERSION ?g_LETTERS ?g_LONGEST_KEY ?g_MOST_PIECES ?g_MOST_WRITES ?g_NUMBER ?g_SEPARATOR ?g_WORD
    (case n_Reader => k_is)
    (case pg => k_is)
    (case hd => k_is)
    (case po => k_is)
    (case sa => k_is)
    (case makes => k_is)
    (case kc => k_is)
    (case na_beyond => k_is)
    (case na_passed => k_is)
    (case na_tokens => k_is)
    (case n__law_draw => k_is)
    (case l__law_draw => k_is)
    (case c__law_draw => k_is)
    (case k__law_draw => k_is)
    (case n__law_commits => k_is)
    (case l__law_commits => k_is)
    (case c__law_commits => k_is)
    (case k__law_commits => k_is)
    (case n__law_next => k_is)
    (case l__law_next => k_is)
    (case c__law_next => k_is)
    (case k__law_next => k_is)
    (case n__law_bent => k_is)
    (case l__law_bent => k_is)
    (case c__law_bent => k_is)
    (case k__law_bent => k_is)
    (case n__law_told => k_is)
    (case l__law_told => k_is)
    (case c__law_told => k_is)
    (case k__law_told => k_is)
    (case n__law_news => k_is)
    (case l__law_news => k_is)
    (case c__law_news => k_is)
    (case k__law_news => k_is)
    (case n__law_number => k_is)
    (case l__law_number => k_is)
    (case c__law_number => k_is)
    (case k__law_number => k_is)
    (case n__law_print => k_is)
    (case l__law_print => k_is)
    (case c__law_print => k_is)
    (case k__law_print => k_is)
    (case n__law_noise => k_is)
    (case l__law_noise => k_is)
    (case c__law_noise => k_is)
    (case k__law_noise => k_is)
    (case n__law_odd => k_is)
    (case l__law_odd => k_is)
    (case c__law_odd => k_is)
    (case k__law_odd => k_is)
    (case n__law_same => k_is)
    (case l__law_same => k_is)
    (case c__law_same => k_is)
    (case k__law_same => k_is)
    (case n__law_shelf => k_is)
    (case l__law_shelf => k_is)
    (case c__law_shelf => k_is)
    (case k__law_shelf => k_is)
    (case n_Reader___init__ => k_is)
    (case i_Reader___init__ => k_is)
    (case l_Reader___init__ => k_is)
    (case c_Reader___init__ => k_is)
    (case k_Reader___init__ => k_is)
    (case n_Reader_sees => k_is)
    (case i_Reader_sees => k_is)
    (case l_Reader_sees => k_is)
    (case c_Reader_sees => k_is)
    (case k_Reader_sees => k_is)
    (case n_Reader_take => k_is)
    (case i_Reader_take => k_is)
    (case l_Reader_take => k_is)
    (case c_Reader_take => k_is)
    (case k_Reader_take => k_is)
    (case n_number_of => k_is)
    (case l_number_of => k_is)
    (case c_number_of => k_is)
    (case k_number_of => k_is)
    (case n_Reader_take_number => k_is)
    (case i_Reader_take_number => k_is)
    (case l_Reader_take_number => k_is)
    (case c_Reader_take_number => k_is)
    (case k_Reader_take_number => k_is)
    (case n_Reader_sees_word => k_is)
    (case i_Reader_sees_word => k_is)
    (case l_Reader_sees_word => k_is)
    (case c_Reader_sees_word => k_is)
    (case k_Reader_sees_word => k_is)
    (case n_Reader_take_word => k_is)
    (case i_Reader_take_word => k_is)
    (case l_Reader_take_word => k_is)
    (case c_Reader_take_word => k_is)
    (case k_Reader_take_word => k_is)
    (case n_Reader_sees_key => k_is)
    (case i_Reader_sees_key => k_is)
    (case l_Reader_sees_key => k_is)
    (case c_Reader_sees_key => k_is)
    (case k_Reader_sees_key => k_is)
    (case n_Reader_take_key => k_is)
    (case i_Reader_take_key => k_is)
    (case l_Reader_take_key => k_is)
    (case c_Reader_take_key => k_is)
    (case k_Reader_take_key => k_is)
    (case n_Reader_take_keys => k_is)
    (case i_Reader_take_keys => k_is)
    (case l_Reader_take_keys => k_is)
    (case c_Reader_take_keys => k_is)
    (case k_Reader_take_keys => k_is)
    (case n_read_commit => k_is)
    (case l_read_commit => k_is)
    (case c_read_commit => k_is)
    (case k_read_commit => k_is)
    (case n_read_times => k_is)
    (case l_read_times => k_is)
    (case c_read_times => k_is)
    (case k_read_times => k_is)
    (case n_read_value => k_is)
    (case l_read_value => k_is)
    (case c_read_value => k_is)
    (case k_read_value => k_is)
    (case n_read_piece => k_is)
    (case l_read_piece => k_is)
    (case c_read_piece => k_is)
    (case k_read_piece => k_is)
    (case n_read_pieces => k_is)
    (case l_read_pieces => k_is)
    (case c_read_pieces => k_is)
    (case k_read_pieces => k_is)
    (case n_end_of_run => k_is)
    (case l_end_of_run => k_is)
    (case c_end_of_run => k_is)
    (case k_end_of_run => k_is)
    (case n_end_of_token => k_is)
    (case l_end_of_token => k_is)
    (case c_end_of_token => k_is)
    (case k_end_of_token => k_is)
    (case n_kind_of => k_is)
    (case l_kind_of => k_is)
    (case c_kind_of => k_is)
    (case k_kind_of => k_is)
    (case n_scan => k_is)
    (case l_scan => k_is)
    (case c_scan => k_is)
    (case k_scan => k_is)
    (case n_parse_news => k_is)
    (case l_parse_news => k_is)
    (case c_parse_news => k_is)
    (case k_parse_news => k_is)
    (case n_print_piece => k_is)
    (case l_print_piece => k_is)
    (case c_print_piece => k_is)
    (case k_print_piece => k_is)
    (case n_print_news => k_is)
    (case l_print_news => k_is)
    (case c_print_news => k_is)
    (case k_print_news => k_is)
    (case n_law => k_is)
    (case l_law => k_is)
    (case c_law => k_is)
    (case k_law => k_is)
    (case z_abs => k_is)
    (case z_all => k_is)
    (case z_bool => k_is)
    (case z_int => k_is)
    (case z_isinstance => k_is)
    (case z_len => k_is)
    (case z_list => k_is)
    (case z_max => k_is)
    (case z_range => k_is)
    (case z_set => k_is)
    (case z_sorted => k_is)
    (case z_str => k_is)
    (case z_tuple => k_is)
    (case g_BLANKS => k_is)
    (case g_DIGITS => k_is)
    (case g_END => k_is)
    (case g_FARTHEST_VALUE => k_is)
    (case g_GLUED => k_is)
    (case g_LAST_VERSION => k_is)
    (case g_LETTERS => k_is)
    (case g_LONGEST_KEY => k_is)
    (case g_MOST_PIECES => k_is)
    (case g_MOST_WRITES => k_is)
    (case g_NUMBER => k_is)
    (case g_SEPARATOR => k_is)
    (case g_WORD => k_is)
#print axioms PySem.Challenge.cw_suresnap_k41_news_is_read_and_printed_holds
