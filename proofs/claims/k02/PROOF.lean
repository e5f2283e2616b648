import PyProof.Rows.All
import Wide.All
import OpenK.AllK
import Wide.FinOn
import HandS.ForMost
import HandS.ForExc
import HandS.Wide
import HandS.Gcd
import HandS.OwnEq
import HandS.Property
import HandS.Defaults
import HandS.CallSlots
import HandS.ExcField
import HandS.ExcInit
import HandS.Flow
import HandS.Deep
import HandS.TryMany
import HandS.IsInst
import HandS.Small
import HandS.Ends
import HandS.HeadEnd
import HandS.Head0
import HandS.Head1
import HandS.Head2
import HandS.HeadHook1
import HandS.HeadHook2
import PySem.Challenge.RW_rangepools_k02_ratios
import HandS.Head3
set_option Elab.async false
set_option linter.all false
set_option maxRecDepth 100000
set_option maxHeartbeats 1000000
/-! L3: trees over the layer. A value is a tree (D) that never changes; a slot may own a list that does. -/
namespace L3
open PySem L2

inductive D where
  | non | bl (b : Bool) | int (n : Int) | str (s : Str) | ty (n : String) | adr (a : Addr)
  | tup (xs : List D) | lst (xs : List D) | obj (c : Addr) (ns : List Str) (xs : List D) | dk (ks : List Key) (xs : List D)

/-! what stands for a tree in the part F of the heap that never changes again -/
mutual
def Rep (K : PySem.W.Frag) (F : Hp) : D → V → Prop
  | .non, v => v = .non
  | .bl b, v => v = .bl b
  | .int n, v => v = .int n
  | .str s, v => v = .str s
  | .ty n, v => v = .ty n
  | .adr a, v => v = .ref a
  | .tup ds, v => ∃ a vs, v = .ref a ∧ SqT K F a vs ∧ Reps K F ds vs
  | .lst ds, v => ∃ a vs, v = .ref a ∧ SqL K F a vs ∧ Reps K F ds vs
  | .obj c ns ds, v => ∃ a dx vs, v = .ref a ∧ F a = some (.ins c dx (ns.zip vs)) ∧ ns.length = vs.length ∧ Reps K F ds vs
  | .dk ks ds, v => ∃ a vs, v = .ref a ∧ F a = some (.dK (ks.zip vs)) ∧ ks.length = vs.length ∧ Reps K F ds vs
def Reps (K : PySem.W.Frag) (F : Hp) : List D → List V → Prop
  | [], vs => vs = []
  | d :: ds, vs => ∃ v r, vs = v :: r ∧ Rep K F d v ∧ Reps K F ds r
end

theorem seqT {K : PySem.W.Frag} {H H' : Hp} {a : Addr} {xs : List V} (e : Same H H') (h : SqT K H a xs) : SqT K H' a xs := by
  rcases h with (h | ⟨o, h⟩) | h
  · exact .inl (.inl (e _ _ h))
  · exact .inl (.inr ⟨o, e _ _ h⟩)
  · exact .inr h

mutual
theorem Rep.mono {K : PySem.W.Frag} {F F' : Hp} (e : Same F F') : ∀ {d : D} {v : V}, Rep K F d v → Rep K F' d v
  | .non, _, h | .bl _, _, h | .int _, _, h | .str _, _, h | .ty _, _, h | .adr _, _, h => h
  | .tup ds, v, h => by
    obtain ⟨a, vs, h1, h2, h3⟩ := h
    exact ⟨a, vs, h1, seqT e h2, Reps.mono e h3⟩
  | .lst ds, v, h => by
    obtain ⟨a, vs, h1, h2, h3⟩ := h
    exact ⟨a, vs, h1, Same.seq e h2, Reps.mono e h3⟩
  | .obj c ns ds, v, h => by
    obtain ⟨a, dx, vs, h1, h2, h4, h3⟩ := h
    exact ⟨a, dx, vs, h1, e _ _ h2, h4, Reps.mono e h3⟩
  | .dk ks ds, v, h => by
    obtain ⟨a, vs, h1, h2, h4, h3⟩ := h
    exact ⟨a, vs, h1, e _ _ h2, h4, Reps.mono e h3⟩
theorem Reps.mono {K : PySem.W.Frag} {F F' : Hp} (e : Same F F') : ∀ {ds : List D} {vs : List V}, Reps K F ds vs → Reps K F' ds vs
  | [], _, h => h
  | d :: ds, _, h => by
    obtain ⟨v, r, h1, h2, h3⟩ := h
    exact ⟨v, r, h1, Rep.mono e h2, Reps.mono e h3⟩
end

theorem Reps.length {K : PySem.W.Frag} {F : Hp} : ∀ {ds : List D} {vs : List V}, Reps K F ds vs → vs.length = ds.length
  | [], _, h => by rw [show _ = _ from h]; rfl
  | d :: ds, _, h => by
    obtain ⟨v, r, h1, h2, h3⟩ := h
    rw [h1, List.length_cons, List.length_cons, h3.length]
theorem Reps.get {K : PySem.W.Frag} {F : Hp} : ∀ {ds : List D} {vs : List V} {i : Nat} {d : D}, Reps K F ds vs → ds[i]? = some d → ∃ v, vs[i]? = some v ∧ Rep K F d v
  | [], _, _, _, _, e => by simp at e
  | x :: ds, _, 0, d, h, e => by
    obtain ⟨v, r, h1, h2, h3⟩ := h
    have e' : x = d := Option.some.inj e
    rw [h1, ← e']
    exact ⟨v, rfl, h2⟩
  | x :: ds, _, i + 1, d, h, e => by
    obtain ⟨v, r, h1, h2, h3⟩ := h
    rw [h1]
    exact h3.get (i := i) e
theorem Reps.get' {K : PySem.W.Frag} {F : Hp} {ds : List D} {vs : List V} {i : Nat} {v : V} (h : Reps K F ds vs) (e : vs[i]? = some v) : ∃ d, ds[i]? = some d ∧ Rep K F d v := by
  have hl := h.length
  have hi : i < vs.length := (List.getElem?_eq_some_iff.mp e).1
  have hd : ds[i]? = some ds[i] := List.getElem?_eq_getElem (by omega)
  obtain ⟨w, hw, r⟩ := h.get hd
  rw [e] at hw
  exact ⟨_, hd, by rw [Option.some.inj hw]; exact r⟩
theorem Reps.append {K : PySem.W.Frag} {F : Hp} : ∀ {ds es : List D} {vs ws : List V}, Reps K F ds vs → Reps K F es ws → Reps K F (ds ++ es) (vs ++ ws)
  | [], _, _, _, h, h' => by rw [show _ = _ from h]; exact h'
  | d :: ds, _, _, _, h, h' => by
    obtain ⟨v, r, h1, h2, h3⟩ := h
    rw [h1]
    exact ⟨v, _, rfl, h2, h3.append h'⟩
theorem Reps.set {K : PySem.W.Frag} {F : Hp} : ∀ {ds : List D} {vs : List V} {i : Nat} {d : D} {v : V}, Reps K F ds vs → Rep K F d v → Reps K F (ds.set i d) (vs.set i v)
  | [], _, _, _, _, h, _ => by rw [show _ = _ from h]; rfl
  | x :: ds, _, 0, d, v, h, e => by
    obtain ⟨v', r, h1, h2, h3⟩ := h
    rw [h1]
    exact ⟨v, r, rfl, e, h3⟩
  | x :: ds, _, i + 1, d, v, h, e => by
    obtain ⟨v', r, h1, h2, h3⟩ := h
    rw [h1]
    exact ⟨v', _, rfl, h2, h3.set (i := i) e⟩
theorem Reps.nil {K : PySem.W.Frag} {F : Hp} : Reps K F [] [] := rfl
theorem Reps.cons {K : PySem.W.Frag} {F : Hp} {d : D} {v : V} {ds : List D} {vs : List V} (h : Rep K F d v) (h' : Reps K F ds vs) : Reps K F (d :: ds) (v :: vs) := ⟨v, vs, rfl, h, h'⟩

/-- what a slot holds: nothing that is told; a tree; a list, an instance of its own (k: handed in by the caller, who gets it back) -/
inductive S where
  | no | v (d : D) | ol (k : Bool) (xs : List D) | oo (k : Bool) (c : Addr) (ns : List Str) (xs : List D) | ex (a : Addr) (c : Value) (d : Option Addr) (ns : List Str) (xs : List D)
def S.owned : S → Bool
  | .ol _ _ => true
  | .oo _ _ _ _ => true
  | _ => false
def S.inp : S → Bool
  | .ol k _ => k
  | .oo k _ _ _ => k
  | _ => false

/-- a call as it stood at the start: F and H there, and where the things lie that were handed in (by slot) -/
structure B where
  F0 : Hp
  H0 : Hp
  P : Nat → Option Addr

structure Wf (b : B) (F H : Hp) : Prop where
  fh : Same F H
  ff : Same b.F0 F
  keep : ∀ a o, (∀ i, b.P i ≠ some a) → b.H0 a = some o → H a = some o
  new : ∀ a o, F a = some o → b.F0 a = some o ∨ b.H0 a = none
  live : ∀ a, H a = none → b.H0 a = none
  pn : ∀ i p, b.P i = some p → ∃ o, b.H0 p = some o

/-- an owned thing at p -/
def Own (K : PySem.W.Frag) (F H : Hp) (s : S) (p : Addr) : Prop := F p = none ∧ match s with
  | .ol _ xs => ∃ vs, H p = some (.lst vs) ∧ Reps K F xs vs
  | .oo _ c ns xs => ∃ dx vs, H p = some (.ins c dx (ns.zip vs)) ∧ ns.length = vs.length ∧ Reps K F xs vs
  | _ => False
def SlotOk (K : PySem.W.Frag) (b : B) (F H : Hp) (i : Nat) (x : Option V) (s : S) : Prop := match s with
  | .no => True
  | .v d => ∃ v, x = some v ∧ Rep K F d v
  | .ex a _ d ns xs => x = some (.ref a) ∧ ∀ dd, d = some dd → ∃ vs, F dd = some (.xd (ns.zip vs)) ∧ Reps K F xs vs
  | .ol _ _ | .oo _ _ _ _ => ∃ p, x = some (.ref p) ∧ Own K F H s p ∧ if s.inp = true then b.P i = some p else b.H0 p = none

structure Rs (K : PySem.W.Frag) (b : B) (δ : List S) (σ : L2.St) (F H : Hp) : Prop where
  len : σ.length = δ.length
  sl : ∀ i s x, δ[i]? = some s → σ[i]? = some x → SlotOk K b F H i x s
  sep : ∀ (i j : Nat) (s t : S) (p : Addr), i ≠ j → δ[i]? = some s → δ[j]? = some t → s.owned = true → t.owned = true → σ[i]? = some (some (.ref p)) → σ[j]? ≠ some (some (.ref p))

/-- one more step: F and H have grown -/
structure Ext (F H F' H' : Hp) : Prop where
  ff : Same F F'
  fh : Same F' H'
  hh : Same H H'
  new : ∀ a o, F' a = some o → F a = some o ∨ H a = none

theorem Ext.refl {F H : Hp} (h : Same F H) : Ext F H F H := ⟨Same.refl _, h, Same.refl _, fun _ _ e => .inl e⟩
theorem Ext.trans {F H F1 H1 F2 H2 : Hp} (a : Ext F H F1 H1) (c : Ext F1 H1 F2 H2) : Ext F H F2 H2 := ⟨a.ff.trans c.ff, c.fh, a.hh.trans c.hh, fun x o e => by
  rcases c.new x o e with q | q
  · exact a.new x o q
  · exact .inr (a.hh.free q)⟩
/-- a new thing that never changes again -/
theorem Ext.new1 {F H : Hp} {p : Addr} {o : HO} (h : Same F H) (n : H p = none) : Ext F H (upd F p o) (upd H p o) := by
  have nF : F p = none := h.free n
  refine ⟨fun a x e => ?_, fun a x e => ?_, fun a x e => ?_, fun a x e => ?_⟩
  · rw [upd_ne (ne_of_none e nF)]; exact e
  · by_cases q : a = p
    · subst q; rw [upd_same] at e ⊢; exact e
    · rw [upd_ne q] at e ⊢; exact h _ _ e
  · rw [upd_ne (ne_of_none e n)]; exact e
  · by_cases q : a = p
    · subst q; exact .inr n
    · rw [upd_ne q] at e; exact .inl e
/-- a new thing beside -/
theorem Ext.beside {F H : Hp} {p : Addr} {o : HO} (h : Same F H) (n : H p = none) : Ext F H F (upd H p o) := by
  refine ⟨Same.refl _, fun a x e => ?_, fun a x e => ?_, fun a x e => .inl e⟩
  · rw [upd_ne (ne_of_none (h _ _ e) n)]; exact h _ _ e
  · rw [upd_ne (ne_of_none e n)]; exact e
theorem Wf.ext {b : B} {F H F' H' : Hp} (w : Wf b F H) (e : Ext F H F' H') : Wf b F' H' := ⟨e.fh, w.ff.trans e.ff, fun a o n h => e.hh _ _ (w.keep a o n h), fun a o h => by
  rcases e.new a o h with q | q
  · exact w.new a o q
  · exact .inr (w.live a q), fun a q => w.live a (e.hh.free q), w.pn⟩
theorem Own.ext {K : PySem.W.Frag} {F H F' H' : Hp} {s : S} {p : Addr} (w : Own K F H s p) (e : Ext F H F' H') : Own K F' H' s p := by
  obtain ⟨n, w⟩ := w
  have no : ∀ {o}, H p = some o → F' p = none := fun {o} ho => by
    cases q : F' p with
    | none => rfl
    | some u =>
      rcases e.new p u q with z | z
      · rw [n] at z; cases z
      · rw [ho] at z; cases z
  cases s with
  | ol k xs =>
    obtain ⟨vs, h1, h2⟩ := w
    exact ⟨no h1, vs, e.hh _ _ h1, h2.mono e.ff⟩
  | oo k c ns xs =>
    obtain ⟨dx, vs, h1, h3, h2⟩ := w
    exact ⟨no h1, dx, vs, e.hh _ _ h1, h3, h2.mono e.ff⟩
  | no => exact w.elim
  | v d => exact w.elim
  | ex _ _ _ _ _ => exact w.elim
theorem SlotOk.ext {K : PySem.W.Frag} {b : B} {F H F' H' : Hp} {i : Nat} {x : Option V} {s : S} (w : SlotOk K b F H i x s) (e : Ext F H F' H') : SlotOk K b F' H' i x s := by
  cases s with
  | no => trivial
  | v d =>
    obtain ⟨v, h1, h2⟩ := w
    exact ⟨v, h1, h2.mono e.ff⟩
  | ex a c d ns xs =>
    obtain ⟨h1, h2⟩ := w
    exact ⟨h1, fun dd hd => let ⟨vs, a1, a2⟩ := h2 dd hd; ⟨vs, e.ff _ _ a1, a2.mono e.ff⟩⟩
  | ol k xs =>
    obtain ⟨p, h1, h2, h3⟩ := w
    exact ⟨p, h1, h2.ext e, h3⟩
  | oo k c ns xs =>
    obtain ⟨p, h1, h2, h3⟩ := w
    exact ⟨p, h1, h2.ext e, h3⟩
theorem Rs.ext {K : PySem.W.Frag} {b : B} {δ : List S} {σ : L2.St} {F H F' H' : Hp} (r : Rs K b δ σ F H) (e : Ext F H F' H') : Rs K b δ σ F' H' :=
  ⟨r.len, fun i s x h1 h2 => (r.sl i s x h1 h2).ext e, r.sep⟩

/-! ### readings -/
abbrev Er := Addr × List (Str × D)
/-- an exception of the class at er.1, its own dict (if it has fields) -/
def RepX (K : PySem.W.Frag) (F : Hp) (er : Er) (cls : Value) (dd : Option Addr) : Prop := cls = .ref er.1 ∧ match er.2 with
  | [] => dd = none
  | fs => ∃ a vs, dd = some a ∧ F a = some (.xd ((fs.map (·.1)).zip vs)) ∧ Reps K F (fs.map (·.2)) vs
abbrev Wt := List S → (D → List S → Prop) → (Er → List S → Prop) → Prop
def Xp (K : PySem.W.Frag) (W : WX) (b : B) (F : Hp) (σ : L2.St) (er : Er) (δ' : List S) : Prop :=
  ∀ cls dd F' H', Wf b F' H' → Same F F' → Rs K b δ' σ F' H' → RepX K F' er cls dd → W cls dd σ H'
/-- an expression whose value is a tree -/
def Tr (K : PySem.W.Frag) (W : WX) (w : Wt) : TE := fun σ H Q => ∃ b δ F Po Px, Wf b F H ∧ Rs K b δ σ F H ∧ w δ Po Px ∧
  (∀ d δ', Po d δ' → ∀ v F' H', Wf b F' H' → Same F F' → Rs K b δ' σ F' H' → Rep K F' d v → Q v H') ∧ ∀ er δ', Px er δ' → Xp K W b F σ er δ'
/-- a test -/
abbrev Wb := List S → (Bool → List S → Prop) → (Er → List S → Prop) → Prop
def TrT (K : PySem.W.Frag) (W : WX) (w : Wb) : TT := fun σ H Q => ∃ b δ F Po Px, Wf b F H ∧ Rs K b δ σ F H ∧ w δ Po Px ∧
  (∀ c δ', Po c δ' → ∀ F' H', Wf b F' H' → Same F F' → Rs K b δ' σ F' H' → Q c H') ∧ ∀ er δ', Px er δ' → Xp K W b F σ er δ'
/-- a new list of its own -/
abbrev Wl := List S → (List D → List S → Prop) → (Er → List S → Prop) → Prop
def NewAt (K : PySem.W.Frag) (b : B) (δ : List S) (σ : L2.St) (F H : Hp) (xs : List D) (p : Addr) : Prop :=
  Own K F H (.ol false xs) p ∧ b.H0 p = none ∧ ∀ (j : Nat) (s : S), δ[j]? = some s → s.owned = true → σ[j]? ≠ some (some (.ref p))
def TrL (K : PySem.W.Frag) (W : WX) (w : Wl) : TE := fun σ H Q => ∃ b δ F Po Px, Wf b F H ∧ Rs K b δ σ F H ∧ w δ Po Px ∧
  (∀ xs δ', Po xs δ' → ∀ p F' H', Wf b F' H' → Same F F' → Rs K b δ' σ F' H' → NewAt K b δ' σ F' H' xs p → Q (.ref p) H') ∧ ∀ er δ', Px er δ' → Xp K W b F σ er δ'
/-- arguments: trees, or slots that are handed in -/
inductive A where
  | d (d : D) | s (j : Nat)
def RepA (K : PySem.W.Frag) (F : Hp) (σ : L2.St) : A → V → Prop
  | .d d, v => Rep K F d v
  | .s j, v => σ[j]? = some (some v)
abbrev Wa := List S → (List A → List S → Prop) → (Er → List S → Prop) → Prop
def TrA (K : PySem.W.Frag) (W : WX) (w : Wa) : TA := fun σ H Q => ∃ b δ F Po Px, Wf b F H ∧ Rs K b δ σ F H ∧ w δ Po Px ∧
  (∀ as δ', Po as δ' → ∀ vs F' H', Wf b F' H' → Same F F' → Rs K b δ' σ F' H' → Paired (RepA K F' σ) as vs → Q vs H') ∧ ∀ er δ', Px er δ' → Xp K W b F σ er δ'
/-- statements -/
inductive Rv where
  | d (d : D) | l (xs : List D)
structure DE where
  nx : List S → Prop
  rt : Rv → List S → Prop
  bk : List S → Prop
  ct : List S → Prop
  xx : Er → List S → Prop
abbrev Ws := List S → DE → Prop
def RtOk (K : PySem.W.Frag) (b : B) (F H : Hp) : Rv → V → Prop
  | .d d, v => Rep K F d v
  | .l xs, v => ∃ p, v = .ref p ∧ Own K F H (.ol false xs) p ∧ b.H0 p = none
/-- what is handed back in the slots that were handed in -/
def Fin (K : PySem.W.Frag) (b : B) (fin : List S) (F H : Hp) : Prop := ∀ i s p, fin[i]? = some s → b.P i = some p → s.inp = true → Own K F H s p
def TrS (K : PySem.W.Frag) (W : WX) (w : Ws) : TS := fun Dn σ H => ∃ b δ F E, Wf b F H ∧ Rs K b δ σ F H ∧ w δ E ∧
  (∀ δ', E.nx δ' → ∀ σ' F' H', Wf b F' H' → Same F F' → Rs K b δ' σ' F' H' → Dn.nx σ' H') ∧
  (∀ δ', E.bk δ' → ∀ σ' F' H', Wf b F' H' → Same F F' → Rs K b δ' σ' F' H' → Dn.bk σ' H') ∧
  (∀ δ', E.ct δ' → ∀ σ' F' H', Wf b F' H' → Same F F' → Rs K b δ' σ' F' H' → Dn.ct σ' H') ∧
  (∀ r δ', E.rt r δ' → ∀ v F' H', Wf b F' H' → Same F F' → Fin K b δ' F' H' → RtOk K b F' H' r v → Dn.rt v H') ∧
  (∀ er δ', E.xx er δ' → ∀ σ' F' H', Wf b F' H' → Same F F' → Rs K b δ' σ' F' H' → ∀ cls dd, RepX K F' er cls dd → W cls dd σ' H')
end L3

set_option Elab.async false
set_option linter.all false
set_option maxRecDepth 100000
set_option maxHeartbeats 1000000
namespace L3
open PySem L2
section
variable {X : Cx} {K : PySem.W.Frag} {W : WX} {e a b c : Expr} {es : List Expr} {t : TE} {pos : Pos}

theorem pe_imp {t' : TE} (h : PE X e t) (i : ∀ σ H Q, t' σ H Q → t σ H Q) : PE X e t' := ⟨fun pins s σ H Q I q => h.run pins s σ H Q I (i _ _ _ q)⟩
theorem pt_imp {t t' : TT} (h : PT X e t) (i : ∀ σ H Q, t' σ H Q → t σ H Q) : PT X e t' := ⟨fun pins s σ H Q I q => h.run pins s σ H Q I (i _ _ _ q)⟩
theorem pa_imp {t t' : TA} (h : PA X es t) (i : ∀ σ H Q, t' σ H Q → t σ H Q) : PA X es t' := ⟨fun pos pins s σ H Q I q => h.run pos pins s σ H Q I (i _ _ _ q)⟩
theorem ps_imp {st : Stmt} {t t' : TS} (h : PS X st t) (i : ∀ D σ H, t' D σ H → t D σ H) : PS X st t' := ⟨fun pins s σ H D I q => h.run pins s σ H D I (i _ _ _ q)⟩
theorem pss_imp {st : List Stmt} {t t' : TS} (h : PSs X st t) (i : ∀ D σ H, t' D σ H → t D σ H) : PSs X st t' := ⟨fun pins s σ H D I q => h.run pins s σ H D I (i _ _ _ q)⟩

theorem Rs.val {b : B} {δ : List S} {σ : L2.St} {F H : Hp} {i : Nat} {d : D} (r : Rs K b δ σ F H) (h : δ[i]? = some (.v d)) : ∃ v, σ[i]? = some (some v) ∧ Rep K F d v := by
  have hi : i < δ.length := (List.getElem?_eq_some_iff.mp h).1
  have hs : i < List.length σ := by rw [r.len]; exact hi
  obtain ⟨v, h1, h2⟩ := r.sl i _ _ h (List.getElem?_eq_getElem hs)
  exact ⟨v, by rw [List.getElem?_eq_getElem hs, h1], h2⟩
theorem Rs.own {b : B} {δ : List S} {σ : L2.St} {F H : Hp} {i : Nat} {s : S} (r : Rs K b δ σ F H) (h : δ[i]? = some s) (o : s.owned = true) : ∃ p, σ[i]? = some (some (.ref p)) ∧ Own K F H s p ∧ if s.inp = true then b.P i = some p else b.H0 p = none := by
  have hi : i < δ.length := (List.getElem?_eq_some_iff.mp h).1
  have hs : i < List.length σ := by rw [r.len]; exact hi
  have q := r.sl i _ _ h (List.getElem?_eq_getElem hs)
  cases s with
  | no => cases o
  | v d => cases o
  | ex _ _ _ _ _ => cases o
  | ol k xs =>
    obtain ⟨p, h1, h2, h3⟩ := q
    exact ⟨p, by rw [List.getElem?_eq_getElem hs, h1], h2, h3⟩
  | oo k c ns xs =>
    obtain ⟨p, h1, h2, h3⟩ := q
    exact ⟨p, by rw [List.getElem?_eq_getElem hs, h1], h2, h3⟩
theorem Xp.back {b : B} {F F' : Hp} {σ : L2.St} (e : Same F F') {er : Er} {δ : List S} (h : Xp K W b F σ er δ) : Xp K W b F' σ er δ := fun cls dd G H' w s r x => h cls dd G H' w (e.trans s) r x

/-! ### names, constants -/
def wVar (i : Nat) : Wt := fun δ Q _ => ∃ d, δ[i]? = some (.v d) ∧ Q d δ
theorem x_var (i : Nat) {x : Str} (hN : X.N[i]? = some x := by rfl) (hv : Vis X.env.scope x := by first | exact Or.inl rfl | exact Or.inr (Or.inl rfl) | exact Or.inr (Or.inr rfl)) (hd : (x == ("__debug__" : Str)) = false := by decide)
    (hcd : (x == ("__classdict__" : Str)) = false := by decide) : PE X (.Name x pos) (Tr K W (wVar i)) := pe_imp (pe_var hN hv hd hcd) fun σ H Q h => by
  obtain ⟨b, δ, F, Po, Px, wf, r, ⟨d, hd, q⟩, k, _⟩ := h
  obtain ⟨v, h1, h2⟩ := r.val hd
  exact ⟨v, h1, k _ _ q v F H wf (Same.refl _) r h2⟩
def wC (d : D) : Wt := fun δ Q _ => Q d δ
theorem x_c {v : V} {d : D} (h : PE X e (tC v)) (hr : ∀ F, Rep K F d v) : PE X e (Tr K W (wC d)) := pe_imp h fun σ H Q h => by
  obtain ⟨b, δ, F, Po, Px, wf, r, q, k, _⟩ := h
  exact k _ _ q v F H wf (Same.refl _) r (hr F)
theorem x_int {i : Int} {j : Nat} : PE X (.Constant (.int i) j pos) (Tr K W (wC (.int i))) := x_c pe_int fun _ => rfl
theorem x_bl {i : Bool} {j : Nat} : PE X (.Constant (.bool i) j pos) (Tr K W (wC (.bl i))) := x_c pe_bl fun _ => rfl
theorem x_non {j : Nat} : PE X (.Constant .none j pos) (Tr K W (wC .non)) := x_c pe_non fun _ => rfl
theorem x_str {x : Str} {j : Nat} : PE X (.Constant (.str x) j pos) (Tr K W (wC (.str x))) := x_c pe_str fun _ => rfl
theorem x_glob {x : Str} {p : Addr} (hg : Gl X x) (hm : X.mg x = some (.ref p)) (hdb : (x == ("__debug__" : Str)) = false := by decide) : PE X (.Name x pos) (Tr K W (wC (.adr p))) := x_c (v := .ref p) (pe_glob hg hm rfl hdb) fun _ => rfl

/-! ### operators -/
/-- an operation on trees -/
abbrev O2 := D → D → (D → Prop) → Prop
def Op2 (K : PySem.W.Frag) (o : O2) : R2 := fun x y H Q => ∃ F d e P, Same F H ∧ Rep K F d x ∧ Rep K F e y ∧ o d e P ∧ ∀ z, P z → ∀ v F' H', Ext F H F' H' → Rep K F' z v → Q v H'
abbrev O1 := D → (D → Prop) → Prop
def Op1 (K : PySem.W.Frag) (o : O1) : V → Hp → VK → Prop := fun x H Q => ∃ F d P, Same F H ∧ Rep K F d x ∧ o d P ∧ ∀ z, P z → ∀ v F' H', Ext F H F' H' → Rep K F' z v → Q v H'
def wOp (o : O2) (wa wb : Wt) : Wt := fun δ Q Y => wa δ (fun d δ1 => wb δ1 (fun e δ2 => o d e fun z => Q z δ2) Y) Y
def wUn (o : O1) (wa : Wt) : Wt := fun δ Q Y => wa δ (fun d δ1 => o d fun z => Q z δ1) Y
theorem tr_op {o : O2} {wa wb : Wt} {σ : L2.St} {H : Hp} {Q : VK} (h : Tr K W (wOp o wa wb) σ H Q) : tOp (Op2 K o) (Tr K W wa) (Tr K W wb) σ H Q := by
  obtain ⟨b, δ, F, Po, Px, wf, r, q, k, kx⟩ := h
  refine ⟨b, δ, F, _, _, wf, r, q, fun d δ1 q1 x F1 H1 wf1 s1 r1 rx => ?_, kx⟩
  refine ⟨b, δ1, F1, _, _, wf1, r1, q1, fun e δ2 q2 y F2 H2 wf2 s2 r2 ry => ?_, fun er δ' hx => Xp.back s1 (kx er δ' hx)⟩
  exact ⟨F2, d, e, _, wf2.fh, rx.mono s2, ry, q2, fun z q3 v F3 H3 ex rz => k z δ2 q3 v F3 H3 (wf2.ext ex) ((s1.trans s2).trans ex.ff) (r2.ext ex) rz⟩
theorem tr_un {o : O1} {wa : Wt} {σ : L2.St} {H : Hp} {Q : VK} (h : Tr K W (wUn o wa) σ H Q) : tUn (Op1 K o) (Tr K W wa) σ H Q := by
  obtain ⟨b, δ, F, Po, Px, wf, r, q, k, kx⟩ := h
  refine ⟨b, δ, F, _, _, wf, r, q, fun d δ1 q1 x F1 H1 wf1 s1 r1 rx => ?_, kx⟩
  exact ⟨F1, d, _, wf1.fh, rx, q1, fun z q3 v F3 H3 ex rz => k z δ1 q3 v F3 H3 (wf1.ext ex) (s1.trans ex.ff) (r1.ext ex) rz⟩
theorem x_bin {o : O2} {wa wb : Wt} {op : Operator} (ho : OpR X (binaryOp op) (Op2 K o)) (ha : PE X a (Tr K W wa)) (hb : PE X b (Tr K W wb)) : PE X (.BinOp a op b pos) (Tr K W (wOp o wa wb)) := pe_imp (pe_op ho ha hb) fun _ _ _ => tr_op
theorem x_un {o : O1} {wa : Wt} {op : UnaryOp} (ho : UnR X (unaryOp op) (Op1 K o)) (ha : PE X a (Tr K W wa)) : PE X (.UnaryOp op a pos) (Tr K W (wUn o wa)) := pe_imp (pe_un ho ha) fun _ _ _ => tr_un
theorem x_cmp {o : O2} {wa wb : Wt} {op : CmpOp} (ho : OpR X (compareOp op) (Op2 K o)) (ha : PE X a (Tr K W wa)) (hb : PE X b (Tr K W wb)) (hm : behindInMarks op b = false) : PE X (.Compare a [op] [b] pos) (Tr K W (wOp o wa wb)) := pe_imp (pe_cmpR ho ha hb hm) fun _ _ _ => tr_op

/-- from a rule of the layer -/
theorem op_of {f : Value → Value → Sem Value} {r : R2} {o : O2} (h : OpR X f r) (i : ∀ x y H Q, Op2 K o x y H Q → r x y H Q) : OpR X f (Op2 K o) := fun pins s σ H x y u v Q I rx ry q => h pins s σ H x y u v Q I rx ry (i _ _ _ _ q)
theorem op_or {f : Value → Value → Sem Value} {o p : O2} (h : OpR X f (Op2 K o)) (h' : OpR X f (Op2 K p)) : OpR X f (Op2 K fun d e P => o d e P ∨ p d e P) := fun pins s σ H x y u v Q I rx ry q => by
  obtain ⟨F, d, e, P, s1, r1, r2, q, k⟩ := q
  rcases q with q | q
  · exact h pins s σ H x y u v Q I rx ry ⟨F, d, e, P, s1, r1, r2, q, k⟩
  · exact h' pins s σ H x y u v Q I rx ry ⟨F, d, e, P, s1, r1, r2, q, k⟩
/-- whole numbers -/
def oI (C : Int → Int → Prop) (g : Int → Int → D) : O2 := fun d e P => ∃ i j, d = .int i ∧ e = .int j ∧ C i j ∧ P (g i j)
theorem op2_I {f : Value → Value → Sem Value} {C : Int → Int → Prop} {g : Int → Int → V} {g' : Int → Int → D} (h : OpR X f (rI C g)) (hg : ∀ F i j, Rep K F (g' i j) (g i j)) : OpR X f (Op2 K (oI C g')) := op_of h fun x y H Q q => by
  obtain ⟨F, d, e, P, s1, r1, r2, ⟨i, j, rfl, rfl, hc, q⟩, k⟩ := q
  exact ⟨i, j, r1, r2, hc, k _ q _ F H (Ext.refl s1) (hg F i j)⟩
def CT (_ _ : Int) : Prop := True
theorem op2_I0 {f : Value → Value → Sem Value} {g : Int → Int → V} {g' : Int → Int → D} (h : OpR X f (rI0 g)) (hg : ∀ F i j, Rep K F (g' i j) (g i j)) : OpR X f (Op2 K (oI CT g')) := op_of h fun x y H Q q => by
  obtain ⟨F, d, e, P, s1, r1, r2, ⟨i, j, rfl, rfl, hc, q⟩, k⟩ := q
  exact ⟨i, j, r1, r2, k _ q _ F H (Ext.refl s1) (hg F i j)⟩
theorem o_add : OpR X (binaryOp .Add) (Op2 K (oI CT fun i j => .int (i + j))) := op2_I0 op_add fun _ _ _ => rfl
theorem o_sub : OpR X (binaryOp .Sub) (Op2 K (oI CT fun i j => .int (i - j))) := op2_I0 op_sub fun _ _ _ => rfl
theorem o_mul : OpR X (binaryOp .Mult) (Op2 K (oI CMulW fun i j => .int (i * j))) := op2_I op_mulW fun _ _ _ => rfl
theorem o_fdiv : OpR X (binaryOp .FloorDiv) (Op2 K (oI CDivW fun i j => .int (i / j))) := op2_I op_fdivW fun _ _ _ => rfl
theorem o_mod : OpR X (binaryOp .Mod) (Op2 K (oI (fun _ j => j ≠ 0) fun i j => .int (i.fmod j))) := op2_I op_modN fun _ _ _ => rfl
end
end L3

set_option Elab.async false
set_option linter.all false
set_option maxRecDepth 100000
set_option maxHeartbeats 1000000
namespace L3
open PySem L2
section
variable {X : Cx} {K : PySem.W.Frag} {W : WX} {e a b c : Expr} {es : List Expr} {t : TE} {pos : Pos}

/-! ### truth -/
def truD : D → Option Bool
  | .non => some false
  | .bl b => some b
  | .int i => some (i != 0)
  | .tup xs => some (!xs.isEmpty)
  | .lst xs => some (!xs.isEmpty)
  | _ => none
theorem tru_rep {F H : Hp} {d : D} {v : V} {k : Bool} (s : Same F H) (r : Rep K F d v) (h : truD d = some k) : TruV K v H k := by
  cases d with
  | non => rw [show v = _ from r]; exact (Option.some.inj h).symm
  | bl b => rw [show v = _ from r]; exact (Option.some.inj h).symm
  | int i => rw [show v = _ from r]; exact (Option.some.inj h).symm
  | str s => cases h
  | ty s => cases h
  | adr s => cases h
  | obj c ns xs => cases h
  | dk ks xs => cases h
  | tup xs =>
    obtain ⟨a, vs, rfl, h2, h3⟩ := r
    refine .inr (.inl ⟨vs, seqT s h2, ?_⟩)
    rw [← Option.some.inj h]
    cases xs with
    | nil => rw [show vs = [] from h3]; rfl
    | cons x xs => obtain ⟨_, _, rfl, _⟩ := h3; rfl
  | lst xs =>
    obtain ⟨a, vs, rfl, h2, h3⟩ := r
    refine .inl ⟨vs, Same.seq s h2, ?_⟩
    rw [← Option.some.inj h]
    cases xs with
    | nil => rw [show vs = [] from h3]; rfl
    | cons x xs => obtain ⟨_, _, rfl, _⟩ := h3; rfl
/-- a value as a test -/
def wTru (w : Wt) : Wb := fun δ Q Y => w δ (fun d δ1 => ∃ k, truD d = some k ∧ Q k δ1) Y
theorem x_tru {w : Wt} (h : PE X e (Tr X.K W w)) (he : ∀ whole, isTrue e X.env whole = (do let v ← whole; standAt e.pos; holding [v] (truthy v)) := by intro _; rfl) : PT X e (TrT X.K W (wTru w)) := pt_imp (pt_truth h he) fun σ H Q h => by
  obtain ⟨b, δ, F, Po, Px, wf, r, q, k, kx⟩ := h
  refine ⟨b, δ, F, _, _, wf, r, q, fun d δ1 q1 x F1 H1 wf1 s1 r1 rx => ?_, kx⟩
  obtain ⟨c, hc, q2⟩ := q1
  exact ⟨c, tru_rep wf1.fh rx hc, k c δ1 q2 F1 H1 wf1 s1 r1⟩
def wAndT (u w : Wb) : Wb := fun δ Q Y => u δ (fun c δ1 => if c = true then w δ1 Q Y else Q false δ1) Y
def wOrT (u w : Wb) : Wb := fun δ Q Y => u δ (fun c δ1 => if c = true then Q true δ1 else w δ1 Q Y) Y
def wNotT (u : Wb) : Wb := fun δ Q Y => u δ (fun c δ1 => Q (!c) δ1) Y
theorem trt_and {u w : Wb} {σ : L2.St} {H : Hp} {Q : Bool → Hp → Prop} (h : TrT K W (wAndT u w) σ H Q) : tAnd (TrT K W u) (TrT K W w) σ H Q := by
  obtain ⟨b, δ, F, Po, Px, wf, r, q, k, kx⟩ := h
  refine ⟨b, δ, F, _, _, wf, r, q, fun c δ1 q1 F1 H1 wf1 s1 r1 => ?_, kx⟩
  cases c with
  | true =>
    rw [if_pos rfl] at q1 ⊢
    exact ⟨b, δ1, F1, _, _, wf1, r1, q1, fun c δ2 q2 F2 H2 wf2 s2 r2 => k c δ2 q2 F2 H2 wf2 (s1.trans s2) r2, fun er δ' hx => Xp.back s1 (kx er δ' hx)⟩
  | false =>
    rw [if_neg Bool.false_ne_true] at q1 ⊢
    exact k false δ1 q1 F1 H1 wf1 s1 r1
theorem trt_or {u w : Wb} {σ : L2.St} {H : Hp} {Q : Bool → Hp → Prop} (h : TrT K W (wOrT u w) σ H Q) : tOr (TrT K W u) (TrT K W w) σ H Q := by
  obtain ⟨b, δ, F, Po, Px, wf, r, q, k, kx⟩ := h
  refine ⟨b, δ, F, _, _, wf, r, q, fun c δ1 q1 F1 H1 wf1 s1 r1 => ?_, kx⟩
  cases c with
  | false =>
    rw [if_neg Bool.false_ne_true] at q1 ⊢
    exact ⟨b, δ1, F1, _, _, wf1, r1, q1, fun c δ2 q2 F2 H2 wf2 s2 r2 => k c δ2 q2 F2 H2 wf2 (s1.trans s2) r2, fun er δ' hx => Xp.back s1 (kx er δ' hx)⟩
  | true =>
    rw [if_pos rfl] at q1 ⊢
    exact k true δ1 q1 F1 H1 wf1 s1 r1
theorem trt_not {u : Wb} {σ : L2.St} {H : Hp} {Q : Bool → Hp → Prop} (h : TrT K W (wNotT u) σ H Q) : tNot (TrT K W u) σ H Q := by
  obtain ⟨b, δ, F, Po, Px, wf, r, q, k, kx⟩ := h
  exact ⟨b, δ, F, _, _, wf, r, q, fun c δ1 q1 F1 H1 wf1 s1 r1 => k _ δ1 q1 F1 H1 wf1 s1 r1, kx⟩
theorem pw_imp {t t' : TT} (h : PW X e t) (i : ∀ σ H Q, t' σ H Q → t σ H Q) : PW X e t' := ⟨fun wh pins s σ H Q I q => h.run wh pins s σ H Q I (i _ _ _ q)⟩
theorem x_and1 {u : Wb} (h : PT X a (TrT K W u)) : PW X (.BoolOp .And [a] pos) (TrT K W u) := pw_and1 h
theorem x_or1 {u : Wb} (h : PT X a (TrT K W u)) : PW X (.BoolOp .Or [a] pos) (TrT K W u) := pw_or1 h
theorem x_andT {u w : Wb} {rest : List Expr} (h : PT X a (TrT K W u)) (h' : PW X (.BoolOp .And (b :: rest) pos) (TrT K W w)) : PW X (.BoolOp .And (a :: b :: rest) pos) (TrT K W (wAndT u w)) := pw_imp (pw_and h h') fun _ _ _ => trt_and
theorem x_orT {u w : Wb} {rest : List Expr} (h : PT X a (TrT K W u)) (h' : PW X (.BoolOp .Or (b :: rest) pos) (TrT K W w)) : PW X (.BoolOp .Or (a :: b :: rest) pos) (TrT K W (wOrT u w)) := pw_imp (pw_or h h') fun _ _ _ => trt_or
theorem x_notT {u : Wb} (h : PT X a (TrT K W u)) : PT X (.UnaryOp .Not a pos) (TrT K W (wNotT u)) := pt_imp (pt_not h) fun _ _ _ => trt_not
theorem x_cmpT {w : Wt} (h : PE X (.Compare a [c'] [b] pos) (Tr X.K W w)) (he : ∀ whole, isTrue (.Compare a [c'] [b] pos) X.env whole = (do let v ← whole; standAt (Expr.Compare a [c'] [b] pos).pos; holding [v] (truthy v)) := by intro _; rfl) : PT X (.Compare a [c'] [b] pos) (TrT X.K W (wTru w)) := x_tru h he

/-! ### and, or, not as values; a if t else b -/
def wAnd (u w : Wt) : Wt := fun δ Q Y => u δ (fun d δ1 => ∃ c, d = .bl c ∧ if c = true then w δ1 Q Y else Q (.bl false) δ1) Y
def wOr (u w : Wt) : Wt := fun δ Q Y => u δ (fun d δ1 => ∃ c, d = .bl c ∧ if c = true then Q (.bl true) δ1 else w δ1 Q Y) Y
def wNot (u : Wt) : Wt := fun δ Q Y => u δ (fun d δ1 => ∃ c, d = .bl c ∧ Q (.bl (!c)) δ1) Y
def wIf (t : Wb) (u w : Wt) : Wt := fun δ Q Y => t δ (fun c δ1 => if c = true then u δ1 Q Y else w δ1 Q Y) Y
theorem tr_and {u w : Wt} {σ : L2.St} {H : Hp} {Q : VK} (h : Tr K W (wAnd u w) σ H Q) : tAndV (Tr K W u) (Tr K W w) σ H Q := by
  obtain ⟨b, δ, F, Po, Px, wf, r, q, k, kx⟩ := h
  refine ⟨b, δ, F, _, _, wf, r, q, fun d δ1 q1 x F1 H1 wf1 s1 r1 rx => ?_, kx⟩
  obtain ⟨c, rfl, q1⟩ := q1
  refine ⟨c, rx, ?_⟩
  cases c with
  | true =>
    rw [if_pos rfl] at q1 ⊢
    exact ⟨b, δ1, F1, _, _, wf1, r1, q1, fun c δ2 q2 v F2 H2 wf2 s2 r2 => k c δ2 q2 v F2 H2 wf2 (s1.trans s2) r2, fun er δ' hx => Xp.back s1 (kx er δ' hx)⟩
  | false =>
    rw [if_neg Bool.false_ne_true] at q1 ⊢
    exact k _ δ1 q1 _ F1 H1 wf1 s1 r1 rfl
theorem tr_or {u w : Wt} {σ : L2.St} {H : Hp} {Q : VK} (h : Tr K W (wOr u w) σ H Q) : tOrV (Tr K W u) (Tr K W w) σ H Q := by
  obtain ⟨b, δ, F, Po, Px, wf, r, q, k, kx⟩ := h
  refine ⟨b, δ, F, _, _, wf, r, q, fun d δ1 q1 x F1 H1 wf1 s1 r1 rx => ?_, kx⟩
  obtain ⟨c, rfl, q1⟩ := q1
  refine ⟨c, rx, ?_⟩
  cases c with
  | false =>
    rw [if_neg Bool.false_ne_true] at q1 ⊢
    exact ⟨b, δ1, F1, _, _, wf1, r1, q1, fun c δ2 q2 v F2 H2 wf2 s2 r2 => k c δ2 q2 v F2 H2 wf2 (s1.trans s2) r2, fun er δ' hx => Xp.back s1 (kx er δ' hx)⟩
  | true =>
    rw [if_pos rfl] at q1 ⊢
    exact k _ δ1 q1 _ F1 H1 wf1 s1 r1 rfl
theorem tr_not {u : Wt} {σ : L2.St} {H : Hp} {Q : VK} (h : Tr K W (wNot u) σ H Q) : tNotV (Tr K W u) σ H Q := by
  obtain ⟨b, δ, F, Po, Px, wf, r, q, k, kx⟩ := h
  refine ⟨b, δ, F, _, _, wf, r, q, fun d δ1 q1 x F1 H1 wf1 s1 r1 rx => ?_, kx⟩
  obtain ⟨c, rfl, q1⟩ := q1
  exact ⟨c, rx, k _ δ1 q1 _ F1 H1 wf1 s1 r1 rfl⟩
theorem tr_if {t : Wb} {u w : Wt} {σ : L2.St} {H : Hp} {Q : VK} (h : Tr K W (wIf t u w) σ H Q) : tIf (TrT K W t) (Tr K W u) (Tr K W w) σ H Q := by
  obtain ⟨b, δ, F, Po, Px, wf, r, q, k, kx⟩ := h
  refine ⟨b, δ, F, _, _, wf, r, q, fun c δ1 q1 F1 H1 wf1 s1 r1 => ?_, kx⟩
  cases c with
  | true =>
    rw [if_pos rfl] at q1 ⊢
    exact ⟨b, δ1, F1, _, _, wf1, r1, q1, fun c δ2 q2 v F2 H2 wf2 s2 r2 => k c δ2 q2 v F2 H2 wf2 (s1.trans s2) r2, fun er δ' hx => Xp.back s1 (kx er δ' hx)⟩
  | false =>
    rw [if_neg Bool.false_ne_true] at q1 ⊢
    exact ⟨b, δ1, F1, _, _, wf1, r1, q1, fun c δ2 q2 v F2 H2 wf2 s2 r2 => k c δ2 q2 v F2 H2 wf2 (s1.trans s2) r2, fun er δ' hx => Xp.back s1 (kx er δ' hx)⟩
theorem x_one {op : BoolOp} {u : Wt} (h : PE X a (Tr K W u)) : PE X (.BoolOp op [a] pos) (Tr K W u) := pe_one h
theorem x_and {u w : Wt} {rest : List Expr} (h : PE X a (Tr K W u)) (h' : PE X (.BoolOp .And (b :: rest) pos) (Tr K W w)) : PE X (.BoolOp .And (a :: b :: rest) pos) (Tr K W (wAnd u w)) := pe_imp (pe_and h h') fun _ _ _ => tr_and
theorem x_or {u w : Wt} {rest : List Expr} (h : PE X a (Tr K W u)) (h' : PE X (.BoolOp .Or (b :: rest) pos) (Tr K W w)) : PE X (.BoolOp .Or (a :: b :: rest) pos) (Tr K W (wOr u w)) := pe_imp (pe_or h h') fun _ _ _ => tr_or
theorem x_not {u : Wt} (h : PE X a (Tr K W u)) : PE X (.UnaryOp .Not a pos) (Tr K W (wNot u)) := pe_imp (pe_not h) fun _ _ _ => tr_not
theorem x_if {t : Wb} {u w : Wt} (h : PT X c (TrT K W t)) (h1 : PE X a (Tr K W u)) (h2 : PE X b (Tr K W w)) : PE X (.IfExp c a b pos) (Tr K W (wIf t u w)) := pe_imp (pe_ifExp h h1 h2) fun _ _ _ => tr_if

/-! ### argument lists, displays -/
def wNil : Wa := fun δ Q _ => Q [] δ
def wCons (u : Wt) (w : Wa) : Wa := fun δ Q Y => u δ (fun d δ1 => w δ1 (fun as δ2 => Q (.d d :: as) δ2) Y) Y
/-- a slot that owns its thing is handed in -/
def wIn (j : Nat) (w : Wa) : Wa := fun δ Q Y => (∃ s, δ[j]? = some s ∧ s.owned = true) ∧ w δ (fun as δ2 => Q (.s j :: as) δ2) Y
theorem xa_nil : PA X [] (TrA K W wNil) := pa_imp pa_nil fun σ H Q h => by
  obtain ⟨b, δ, F, Po, Px, wf, r, q, k, kx⟩ := h
  exact k _ _ q _ F H wf (Same.refl _) r .nil
theorem xa_cons {u : Wt} {w : Wa} (h : PE X e (Tr K W u)) (h' : PA X es (TrA K W w)) (hs : starEach (e :: es) X.env = (false, eval e X.env) :: starEach es X.env := by rfl) : PA X (e :: es) (TrA K W (wCons u w)) := pa_imp (pa_cons h h' hs) fun σ H Q h => by
  obtain ⟨b, δ, F, Po, Px, wf, r, q, k, kx⟩ := h
  refine ⟨b, δ, F, _, _, wf, r, q, fun d δ1 q1 x F1 H1 wf1 s1 r1 rx => ?_, kx⟩
  exact ⟨b, δ1, F1, _, _, wf1, r1, q1, fun as δ2 q2 vs F2 H2 wf2 s2 r2 ra => k _ δ2 q2 _ F2 H2 wf2 (s1.trans s2) r2 (.cons (rx.mono s2) ra), fun er δ' hx => Xp.back s1 (kx er δ' hx)⟩
theorem xa_in (j : Nat) {x : Str} {w : Wa} (h' : PA X es (TrA K W w)) (hN : X.N[j]? = some x := by rfl) (hv : Vis X.env.scope x := by first | exact Or.inl rfl | exact Or.inr (Or.inl rfl) | exact Or.inr (Or.inr rfl)) (hd : (x == ("__debug__" : Str)) = false := by decide)
    (hcd : (x == ("__classdict__" : Str)) = false := by decide) (hs : starEach (.Name x pos :: es) X.env = (false, eval (.Name x pos) X.env) :: starEach es X.env := by rfl) : PA X (.Name x pos :: es) (TrA K W (wIn j w)) := pa_imp (pa_cons (pe_var hN hv hd hcd) h' hs) fun σ H Q h => by
  obtain ⟨b, δ, F, Po, Px, wf, r, ⟨⟨s, hs, o⟩, q⟩, k, kx⟩ := h
  obtain ⟨p, hp, _⟩ := r.own hs o
  refine ⟨_, hp, ?_⟩
  exact ⟨b, δ, F, _, _, wf, r, q, fun as δ2 q2 vs F2 H2 wf2 s2 r2 ra => k _ δ2 q2 _ F2 H2 wf2 s2 r2 (.cons hp ra), fun er δ' hx => kx er δ' hx⟩
/-- arguments that are trees alone -/
def trees : List A → Option (List D)
  | [] => some []
  | .d d :: as => (trees as).map (d :: ·)
  | .s _ :: _ => none
theorem reps_of {F : Hp} {σ : L2.St} : ∀ {as : List A} {vs : List V} {ds : List D}, Paired (RepA K F σ) as vs → trees as = some ds → Reps K F ds vs
  | [], _, ds, .nil, h => by cases h; rfl
  | .d d :: as, _, ds, .cons r ra, h => by
    unfold trees at h
    cases q : trees as with
    | none => rw [q] at h; cases h
    | some es =>
      rw [q] at h
      cases h
      exact .cons r (reps_of ra q)
  | .s j :: as, _, ds, _, h => by cases h
def wTup (w : Wa) : Wt := fun δ Q Y => w δ (fun as δ1 => ∃ ds, trees as = some ds ∧ ds.length ≤ 1000 ∧ Q (.tup ds) δ1) Y
def wLst (w : Wa) : Wt := fun δ Q Y => w δ (fun as δ1 => ∃ ds, trees as = some ds ∧ ds.length ≤ 1000 ∧ Q (.lst ds) δ1) Y
/-- a list of its own -/
def wLstO (w : Wa) : Wl := fun δ Q Y => w δ (fun as δ1 => ∃ ds, trees as = some ds ∧ ds.length ≤ 1000 ∧ Q ds δ1) Y
theorem line1000 {n : Nat} (h : n ≤ 1000) : n ≤ sizeLine := Nat.le_of_lt (small1000 h)
theorem x_tup {w : Wa} {k : Nat} (h : PA X es (TrA K W w)) : PE X (.Tuple es k pos) (Tr K W (wTup w)) := pe_imp (pe_tup h) fun σ H Q h => by
  obtain ⟨b, δ, F, Po, Px, wf, r, q, k, kx⟩ := h
  refine ⟨b, δ, F, _, _, wf, r, q, fun as δ1 q1 vs F1 H1 wf1 s1 r1 ra => ?_, kx⟩
  obtain ⟨ds, hd, hl, q2⟩ := q1
  have rr := reps_of ra hd
  refine ⟨by rw [rr.length]; exact line1000 hl, fun p np => ?_⟩
  have ex := Ext.new1 (o := .tup vs) wf1.fh np
  exact k _ δ1 q2 _ _ _ (wf1.ext ex) (s1.trans ex.ff) (r1.ext ex) ⟨p, vs, rfl, .inl (.inl upd_same), rr.mono ex.ff⟩
theorem x_lst {w : Wa} (h : PA X es (TrA K W w)) : PE X (.List es pos) (Tr K W (wLst w)) := pe_imp (pe_lst h) fun σ H Q h => by
  obtain ⟨b, δ, F, Po, Px, wf, r, q, k, kx⟩ := h
  refine ⟨b, δ, F, _, _, wf, r, q, fun as δ1 q1 vs F1 H1 wf1 s1 r1 ra => ?_, kx⟩
  obtain ⟨ds, hd, hl, q2⟩ := q1
  have rr := reps_of ra hd
  refine ⟨by rw [rr.length]; exact line1000 hl, fun p np => ?_⟩
  have ex := Ext.new1 (o := .lst vs) wf1.fh np
  exact k _ δ1 q2 _ _ _ (wf1.ext ex) (s1.trans ex.ff) (r1.ext ex) ⟨p, vs, rfl, .inl (.inl upd_same), rr.mono ex.ff⟩
theorem newAt {b : B} {δ : List S} {σ : L2.St} {F H : Hp} {p : Addr} {vs : List V} {ds : List D} (wf : Wf b F H) (r : Rs K b δ σ F H) (np : H p = none) (rr : Reps K F ds vs) :
    Wf b F (upd H p (.lst vs)) ∧ Rs K b δ σ F (upd H p (.lst vs)) ∧ NewAt K b δ σ F (upd H p (.lst vs)) ds p := by
  have ex := Ext.beside (o := .lst vs) wf.fh np
  refine ⟨wf.ext ex, r.ext ex, ⟨wf.fh.free np, vs, upd_same, rr⟩, wf.live p np, fun j s hj o e => ?_⟩
  obtain ⟨q, hq, ho, _⟩ := r.own hj o
  rw [hq] at e
  have e' : q = p := by cases e; rfl
  subst e'
  obtain ⟨_, ho⟩ := ho
  cases s with
  | no => cases o
  | v d => cases o
  | ex _ _ _ _ _ => cases o
  | ol k xs => obtain ⟨_, h1, _⟩ := ho; rw [np] at h1; cases h1
  | oo k c ns xs => obtain ⟨_, _, h1, _⟩ := ho; rw [np] at h1; cases h1
theorem xl_lst {w : Wa} (h : PA X es (TrA K W w)) : PE X (.List es pos) (TrL K W (wLstO w)) := pe_imp (pe_lst h) fun σ H Q h => by
  obtain ⟨b, δ, F, Po, Px, wf, r, q, k, kx⟩ := h
  refine ⟨b, δ, F, _, _, wf, r, q, fun as δ1 q1 vs F1 H1 wf1 s1 r1 ra => ?_, kx⟩
  obtain ⟨ds, hd, hl, q2⟩ := q1
  have rr := reps_of ra hd
  refine ⟨by rw [rr.length]; exact line1000 hl, fun p np => ?_⟩
  obtain ⟨z1, z2, z3⟩ := newAt wf1 r1 np rr
  exact k _ δ1 q2 p F1 _ z1 s1 z2 z3
/-- a list of its own that is let go: from now on a tree -/
def wFz (w : Wl) : Wt := fun δ Q Y => w δ (fun xs δ1 => Q (.lst xs) δ1) Y
theorem freeze {b : B} {δ : List S} {σ : L2.St} {F H : Hp} {xs : List D} {p : Addr} (wf : Wf b F H) (r : Rs K b δ σ F H) (n : NewAt K b δ σ F H xs p) :
    ∃ F', Wf b F' H ∧ Same F F' ∧ Rs K b δ σ F' H ∧ Rep K F' (.lst xs) (.ref p) := by
  obtain ⟨⟨nF, vs, hp, rr⟩, h0, nj⟩ := n
  have sF : Same F (upd F p (.lst vs)) := fun a o e => by rw [upd_ne (ne_of_none e nF)]; exact e
  have fh : Same (upd F p (.lst vs)) H := fun a o e => by
    by_cases q : a = p
    · subst q; rw [upd_same] at e; cases e; exact hp
    · rw [upd_ne q] at e; exact wf.fh a o e
  refine ⟨upd F p (.lst vs), ⟨fh, wf.ff.trans sF, wf.keep, fun a o e => ?_, wf.live, wf.pn⟩, sF, ⟨r.len, fun i s x h1 h2 => ?_, r.sep⟩, p, vs, rfl, .inl (.inl upd_same), rr.mono sF⟩
  · by_cases q : a = p
    · subst q; exact .inr h0
    · rw [upd_ne q] at e; exact wf.new a o e
  · have z := r.sl i s x h1 h2
    have own : ∀ q, s.owned = true → x = some (.ref q) → Own K F H s q → Own K (upd F p (.lst vs)) H s q := fun q o hx w => by
      have hne : q ≠ p := fun e => nj i s h1 o (by rw [h2, hx, e])
      obtain ⟨w1, w2⟩ := w
      refine ⟨by rw [upd_ne hne]; exact w1, ?_⟩
      cases s with
      | no => cases o
      | v d => cases o
      | ex _ _ _ _ _ => cases o
      | ol k ys => obtain ⟨us, a1, a2⟩ := w2; exact ⟨us, a1, a2.mono sF⟩
      | oo k c ns ys => obtain ⟨dx, us, a1, a3, a2⟩ := w2; exact ⟨dx, us, a1, a3, a2.mono sF⟩
    cases s with
    | no => trivial
    | v d => obtain ⟨v, a1, a2⟩ := z; exact ⟨v, a1, a2.mono sF⟩
    | ex a c d ns ys => obtain ⟨h1, h2⟩ := z; exact ⟨h1, fun dd hd => let ⟨vs, a1, a2⟩ := h2 dd hd; ⟨vs, sF _ _ a1, a2.mono sF⟩⟩
    | ol k ys => obtain ⟨q, a1, a2, a3⟩ := z; exact ⟨q, a1, own q rfl a1 a2, a3⟩
    | oo k c ns ys => obtain ⟨q, a1, a2, a3⟩ := z; exact ⟨q, a1, own q rfl a1 a2, a3⟩
theorem x_fz {w : Wl} (h : PE X e (TrL K W w)) : PE X e (Tr K W (wFz w)) := pe_imp h fun σ H Q h => by
  obtain ⟨b, δ, F, Po, Px, wf, r, q, k, kx⟩ := h
  refine ⟨b, δ, F, _, _, wf, r, q, fun xs δ1 q1 p F1 H1 wf1 s1 r1 n => ?_, kx⟩
  obtain ⟨F2, w2, s2, r2, rp⟩ := freeze wf1 r1 n
  exact k _ δ1 q1 _ F2 H1 w2 (s1.trans s2) r2 rp
end
end L3

set_option Elab.async false
set_option linter.all false
set_option maxRecDepth 100000
set_option maxHeartbeats 1000000
/-! calls where no repr is under way (the guards are empty) -/
namespace L2
open PySem PySem.Spec PyProof.Rows
structure RmG (k : Nat) (A : Around) : Prop where
  r : Room k A
  g : A.guards = some []
theorem RmG.mono {j k : Nat} {A : Around} (r : RmG k A) (h : j ≤ k) : RmG j A := ⟨r.r.mono h, r.g⟩
theorem RmG.in1 {k : Nat} {A : Around} (r : RmG (k + 1) A) : RmG k A.in1 := ⟨r.r.in1, r.g⟩
theorem RmG.make {k : Nat} {A : Around} (r : RmG (k + 1) A) (C : Addr) (us : List Value) (kw : List (Str × Value)) : RmG k (A.under (.builtin "type.__call__" ⟨.ref C :: us, kw⟩)) := ⟨r.r.make C us kw, r.g⟩
structure FnG (P : Program) (w : World) (K : PySem.W.Frag) (mg : Str → Option Value) (base : Heap) (CX : CXT) (k : Nat) (f : Addr) (fd : FuncData) (ps : List Str) (sp : Sp) : Prop where
  len : ∀ vs H Q E, sp vs H Q E → vs.length = ps.length
  run : ∀ (A : Around) (outer : List Env) (s : Shared) (H : Hp) (args : Args) (us : List Value) (vs : List V) (Q : VK) (E : XK), RmG k A → Env0 P w K mg base A outer s H → BindsTo s fd args (ps.zip us) → Vals vs us → sp vs H Q E →
    codeAny (model P w) A (.call (.ref f) args) (CR CX outer P w H s Q E) s
theorem fnG_of {CX : CXT} {P : Program} {w : World} {K : PySem.W.Frag} {mg : Str → Option Value} {base : Heap} {k : Nat} {f : Addr} {name qual : Str} {params : Arguments} {body : List Stmt} {scope : Scope} {dV kV doc pm cdv ct oc : Value} {an od : Option Addr}
    {osl : Array (Option Value)} {N ps : List Str} {sp : Sp} (lk : K.lookup f = some ⟨oc, od, .func (PySem.W.fnOf name qual params body scope dV kV doc pm an cdv ct), osl⟩) (hcd : PySem.W.codeIn K cdv qual = true) (S : FnScope N ps scope)
    (len : ∀ vs H Q E, sp vs H Q E → vs.length = ps.length)
    (hbody : ∀ (A : Around) (outer : List Env) (s : Shared) (H : Hp) (vs : List V) (Q : VK) (E : XK), RmG k (A.deeper (envOfC qual scope s.heap.objs.size f cdv)) → sp vs H Q E →
      ∃ t, PSs (cxOf CX P w K mg base N qual scope f cdv A outer s H E) body t ∧ t { nx := fun _ H' => Q .non H', rt := Q } (start N vs) H) :
    FnG P w K mg base CX (k + 1) f (PySem.W.fnOf name qual params body scope dV kV doc pm an cdv ct) ps sp := by
  refine ⟨len, fun A outer s H args us vs Q E hrg e0 hb r hsp => ?_⟩
  have hr := hrg.r
  have hl := len _ _ _ _ hsp
  have inb : ∀ b o, base.get? b = some o → s.heap.get? b = some o := fun b o e => (e0.bs b o e).1
  have KX := e0.mod.kin.keeps inb
  have lim := e0.mod.nolimit.keeps inb
  have hkind : ∀ y ∈ ps.zip us, scope.names.lookup y.1 = some .local ∨ (scope.names.lookup y.1 = some .cell ∧ ((cellsFrom (s.heap.objs.size + 1) scope.names []).lookup y.1).isSome = true) := by
    rintro ⟨n, v⟩ hy
    rcases S.par n (List.of_mem_zip hy).1 with q | q
    · exact .inl q
    · exact .inr ⟨q, PySem.W.cellsFrom_some _ _ _ (.inl q)⟩
  refine codeAny_call_function hr.depth (KX _ _ lk) rfl S.co S.gen rfl (PySem.W.codeRec_of KX hcd) (hb _ _ _ _ ?_)
  refine wpAny_newFunctionEnv_cells S.kind hkind fun env he s1 x => ?_
  subst he
  refine ⟨lim.keeps x.toInCall.keep, codeAny_func ?_⟩
  obtain ⟨t, ht, hq⟩ := hbody A outer s H vs Q E ⟨hr.deeper _, hrg.g⟩ hsp
  have J := inv_start (CX := CX) (E := E) S hr.hd e0 hl r x
  refine wpAny_mono (ht.run [] s1 (start N vs) H _ J hq) (fun fl s' hs => ?_) fun e s' hs => hs
  cases fl with
  | ret u =>
    obtain ⟨v, σ', H', J', rv, q⟩ := hs
    exact ⟨v, H', J'.os, J'.bare, J'.base, J'.hok, rv, q⟩
  | next =>
    obtain ⟨σ', H', J', q⟩ := hs
    exact ⟨V.non, H', J'.os, J'.bare, J'.base, J'.hok, rfl, q⟩
  | brk => exact False.elim hs.choose_spec.choose_spec.2
  | cont => exact False.elim hs.choose_spec.choose_spec.2
section
variable {X : Cx} {CX : CXT} {k n : Nat} {f C g pp : Addr} {fd : FuncData} {ps ks : List Str} {sp : Sp} {dvs : List V} {ds : List Value} {E : St → XK} {E1 : XK} {x m : Str} {p pos apos : Pos} {e o : Expr} {es : List Expr} {ta : TE} {t tk : TA} {kws : List Keyword}
  {gg : List Value → List Value → List Value} {gV : List V → List V → List V}
/-- the end of a call -/
theorem endG {A : Around} {pins : List (Addr × Obj)} {σ : St} {H : Hp} {s : Shared} {Q : VK} {E0' : XK} {E2 : Value → Shared → Prop} {args : Args} (I : Inv X pins σ H s) (hx : ∀ e s', CX X.stack H s E0' e s' → E2 e s') (c : codeAny (model X.prog X.w) A (.call (.ref f) args) (CR CX X.stack X.prog X.w H s Q E0') s) :
    codeAny (model X.prog X.w) A (.call (.ref f) args) (fun r s' => match r with | .ok (.ret u) => EP X pins σ Q u s' | .ok _ => False | .error e => E2 e s') s := codeAny_mono c fun r s' hq => by
  cases r with
  | error e => exact hx e s' hq
  | ok fl =>
    cases fl with
    | ret u => exact I.after hq
    | next => exact hq
    | brk => exact hq
    | cont => exact hq
theorem run_G {pins : List (Addr × Obj)} {σ : St} {H : Hp} {s : Shared} {Q : VK} {us : List Value} {vs : List V} (F : FnG X.prog X.w X.K X.mg X.base CX k f fd ps sp) (hr : RmG k X.A) (hb : Binds X.K fd ps ds) (hd : Vals dvs ds) (hx : PassesAt CX X σ (E σ))
    (I : Inv X pins σ H s) (r : Vals vs us) (h : sp (vs ++ dvs) H Q (E σ)) : wpAny (model X.prog X.w) X.A (call (.ref f) us) (EP X pins σ Q) X.xe s := by
  have r2 : Vals (vs ++ dvs) (us ++ ds) := r.append hd
  have hl : (us ++ ds).length = ps.length := r2.length.symm.trans (F.len _ _ _ _ h)
  refine wpAny_call (codeAny_mono (F.run X.A X.stack s H ⟨us, []⟩ (us ++ ds) (vs ++ dvs) Q (E σ) hr I.env0 (hb s us I.kIn hl) r2 h) ?_)
  rintro (e | fl) s' hq
  · exact hx pins H s e s' I hq
  · cases fl <;> first | exact I.after hq | exact False.elim hq
theorem pe_callG (F : FnG X.prog X.w X.K X.mg X.base CX k f fd ps sp) (hr : RmG k X.A) (hg : Gl X x) (hm : X.mg x = some (.ref f)) (hk : PySem.W.keepIn X.K (.ref f) = true) (hb : Binds X.K fd ps ds) (hd : Vals dvs ds) (hx : ∀ σ, PassesAt CX X σ (E σ)) (ha : PA X (e :: es) t)
    (hdb : (x == ("__debug__" : Str)) = false := by decide) (he : starEach (e :: es) X.env = (false, eval e X.env) :: starEach es X.env := by rfl) (hpl : (backTo pos (starEach es X.env)).any (·.1) = false := by rfl) : PE X (.Call (.Name x p) (e :: es) [] pos) (tCallSD sp dvs E t) :=
  ⟨fun pins s σ H Q I h => wpAny_Call_Name_kw (ld_glob I hg hm (PySem.W.callWith_K (h₀ := X.base) I.ok.mod.kin hk (thn (ha.run pos pins s σ H _ I h) fun us s1 ⟨vs, H1, I1, r, q⟩ => ⟨I1.kIn, run_G F hr hb hd (hx σ) I1 r q⟩) he hpl) hdb)⟩
theorem pe_callG0 (F : FnG X.prog X.w X.K X.mg X.base CX k f fd ps sp) (hr : RmG k X.A) (hg : Gl X x) (hm : X.mg x = some (.ref f)) (hk : PySem.W.keepIn X.K (.ref f) = true) (hb : Binds X.K fd ps ds) (hd : Vals dvs ds) (hx : ∀ σ, PassesAt CX X σ (E σ))
    (hdb : (x == ("__debug__" : Str)) = false := by decide) : PE X (.Call (.Name x p) [] [] pos) (tCallSD sp dvs E tNil) :=
  ⟨fun pins s σ H Q I h => wpAny_Call_Name_kw (ld_glob I hg hm (PySem.W.callWith_K0 I.kIn hk (run_G (us := []) F hr hb hd (hx σ) I .nil h)) hdb)⟩
/-- o.m(..), what is raised is wished for at the caller's slots -/
def tMethD (C : Addr) (m : Str) (sp : Sp) (dvs : List V) (E : St → XK) (ta : TE) (t : TA) : TE := fun σ H Q => ta σ H fun x H1 => ∃ a dx fs, x = .ref a ∧ H1 a = some (.ins C dx fs) ∧ fs.lookup m = none ∧
  t σ H1 fun vs H2 => sp (x :: (vs ++ dvs)) H2 Q (E σ)
theorem pe_methG {pl : Sem Bool} (he : PE X o ta) (c : Cls X.K C) (hm : Meth X.K C m f) (F : FnG X.prog X.w X.K X.mg X.base CX k f fd ps sp) (hr : RmG k X.A) (hb : Binds X.K fd ps ds) (hd : Vals dvs ds) (hx : ∀ σ, PassesAt CX X σ (E σ)) (ha : PA X (e :: es) t)
    (hst : starEach (e :: es) X.env = (false, eval e X.env) :: starEach es X.env := by rfl) (hpl : (backTo pos (starEach es X.env)).any (·.1) = false := by rfl)
    (ht : eval (.Call (.Attribute o m apos) (e :: es) [] pos) X.env = (do
      let ov ← eval o X.env
      standAt apos.atName
      let (f, first) ← holding [ov] (getMethod ov m pl)
      callWith pos f first (backTo pos (starEach (e :: es) X.env)) (backToKw pos (keywordEach [] X.env))) := by rfl) : PE X (.Call (.Attribute o m apos) (e :: es) [] pos) (tMethD C m sp dvs E ta t) := ⟨fun pins s σ H Q I h => by
  refine PySem.W.methodCall_KW (pl := pl) (thn (he.run pins s σ H _ I h) ?_) ht
  rintro u s1 ⟨_, H1, I1, rx, a, dx, fs, rfl, ea, l, q⟩
  cases (show u = Value.ref a from rx)
  refine getmeth_ok I1 ea c hm l (PySem.W.callWith_K (first := [.ref a]) (h₀ := X.base) I.ok.mod.kin hm.kp (thn (ha.run pos pins s1 σ H1 _ I1 q) ?_) hst hpl)
  rintro us s2 ⟨vs, H2, I2, r, q2⟩
  exact ⟨I2.kIn, run_G (us := .ref a :: us) (vs := .ref a :: vs) F hr hb hd (hx σ) I2 (.cons rfl r) q2⟩⟩
theorem pe_methG0 {pl : Sem Bool} (he : PE X o ta) (c : Cls X.K C) (hm : Meth X.K C m f) (F : FnG X.prog X.w X.K X.mg X.base CX k f fd ps sp) (hr : RmG k X.A) (hb : Binds X.K fd ps ds) (hd : Vals dvs ds) (hx : ∀ σ, PassesAt CX X σ (E σ))
    (ht : eval (.Call (.Attribute o m apos) [] [] pos) X.env = (do
      let ov ← eval o X.env
      standAt apos.atName
      let (f, first) ← holding [ov] (getMethod ov m pl)
      callWith pos f first (backTo pos (starEach [] X.env)) (backToKw pos (keywordEach [] X.env))) := by rfl) : PE X (.Call (.Attribute o m apos) [] [] pos) (tMethD C m sp dvs E ta tNil) := ⟨fun pins s σ H Q I h => by
  refine PySem.W.methodCall_KW (pl := pl) (thn (he.run pins s σ H _ I h) ?_) ht
  rintro u s1 ⟨_, H1, I1, rx, a, dx, fs, rfl, ea, l, q⟩
  cases (show u = Value.ref a from rx)
  exact getmeth_ok I1 ea c hm l (PySem.W.callWith_K0 (first := [.ref a]) I1.kIn hm.kp (run_G (us := [.ref a]) (vs := [.ref a]) F hr hb hd (hx σ) I1 (.cons rfl .nil) q))⟩
def tMakeD (C : Addr) (sp : Sp) (dvs : List V) (E : St → XK) (t : TA) : TE := fun σ H Q => t σ H fun vs H1 => ∀ x dx, H1 x = none → H1 dx = none → dx ≠ x →
  sp (.ref x :: (vs ++ dvs)) (upd (upd H1 dx (.own x)) x (.ins C dx [])) (fun v H2 => v = .non ∧ Q (.ref x) H2) (E σ)
theorem run_makeG {pins : List (Addr × Obj)} {σ : St} {H : Hp} {s : Shared} {Q : VK} {us : List Value} {vs : List V} (M : Mk X.K C f) (F : FnG X.prog X.w X.K X.mg X.base CX k f fd ps sp) (hr : RmG (k + 1) X.A) (hb : Binds X.K fd ps ds) (hd : Vals dvs ds)
    (hx : PassesAt CX X σ (E σ)) (I : Inv X pins σ H s) (r : Vals vs us)
    (h : ∀ x dx, H x = none → H dx = none → dx ≠ x → sp (.ref x :: (vs ++ dvs)) (upd (upd H dx (.own x)) x (.ins C dx [])) (fun v H2 => v = .non ∧ Q (.ref x) H2) (E σ)) :
    wpAny (model X.prog X.w) X.A (call (.ref C) us) (EP X pins σ Q) X.xe s := by
  have hq := h (s.heap.objs.size + 1) s.heap.objs.size (I.hok.fresh (Nat.le_succ _)) (I.hok.fresh (Nat.le_refl _)) (Nat.ne_of_lt (Nat.lt_succ_self _))
  have J := Inv.made (C := C) I
  have r2 : Vals (V.ref (s.heap.objs.size + 1) :: (vs ++ dvs)) (Value.ref (s.heap.objs.size + 1) :: (us ++ ds)) := .cons rfl (r.append hd)
  have hl : (Value.ref (s.heap.objs.size + 1) :: us ++ ds).length = ps.length := r2.length.symm.trans (F.len _ _ _ _ hq)
  refine wpAny_call (make_map (f := f) I.kIn M.makes M.init (beq_iff_eq.mp M.fn) (codeAny_mono (F.run _ X.stack _ _ ⟨Value.ref (s.heap.objs.size + 1) :: us, []⟩ (Value.ref (s.heap.objs.size + 1) :: (us ++ ds)) _ _ (E σ) (hr.make C us [])
    (J.env0.make C us []) (hb _ (Value.ref (s.heap.objs.size + 1) :: us) J.kIn hl) r2 hq) ?_))
  rintro (e | fl) s' hq'
  · exact hx pins _ _ e s' J hq'
  · cases fl with
    | ret u =>
      obtain ⟨v, H', J3, rv, rfl, q3⟩ := J.after hq'
      exact ⟨rv, ⟨V.ref (s.heap.objs.size + 1), H', J3, rfl, q3⟩⟩
    | next => exact False.elim hq'
    | brk => exact False.elim hq'
    | cont => exact False.elim hq'
theorem pe_makeG (M : Mk X.K C f) (F : FnG X.prog X.w X.K X.mg X.base CX k f fd ps sp) (hr : RmG (k + 1) X.A) (hg : Gl X x) (hm : X.mg x = some (.ref C)) (hb : Binds X.K fd ps ds) (hd : Vals dvs ds) (hx : ∀ σ, PassesAt CX X σ (E σ))
    (ha : PA X (e :: es) t) (hdb : (x == ("__debug__" : Str)) = false := by decide) (he : starEach (e :: es) X.env = (false, eval e X.env) :: starEach es X.env := by rfl) (hpl : (backTo pos (starEach es X.env)).any (·.1) = false := by rfl) : PE X (.Call (.Name x p) (e :: es) [] pos) (tMakeD C sp dvs E t) :=
  ⟨fun pins s σ H Q I h => wpAny_Call_Name_kw (ld_glob I hg hm (PySem.W.callWith_K (h₀ := X.base) I.ok.mod.kin M.kp (thn (ha.run pos pins s σ H _ I h) fun us s1 ⟨vs, H1, I1, r, q⟩ => ⟨I1.kIn, run_makeG M F hr hb hd (hx σ) I1 r q⟩) he hpl) hdb)⟩
/-- e.f, a property -/
theorem pe_propG (he : PE X e ta) (c : Cls X.K C) (hp : PropOf X.K C m pp g) (F : FnG X.prog X.w X.K X.mg X.base CX k g fd ps sp) (hr : RmG (k + 1) X.A) (hb : Binds X.K fd ps ds) (hd : Vals dvs ds) (hx : Passes CX X.nox E1)
    (hab : attributeBase e m X.env (eval e X.env) = eval e X.env) : PE X (.Attribute e m pos) (tProp C sp dvs E1 ta) := ⟨fun pins s σ H Q I h => by
  refine attr_of hab (thn (he.run pins s σ H _ I h) ?_)
  rintro u s1 ⟨_, H1, I1, rx, a, dx, fs, rfl, ea, q⟩
  cases (show u = Value.ref a from rx)
  obtain ⟨mA, O, _, _, _, _⟩ := ins_get I1.hok ea
  obtain ⟨od, J, _⟩ := O.look
  obtain ⟨rest, hrec⟩ := hp.rec_
  have I2 := I1.tok (s1.toks + 1)
  have hl : ([Value.ref a] ++ ds).length = ps.length := by
    have := F.len _ _ _ _ q
    rw [List.length_append, ← hd.length, ← this, List.length_cons]; exact Nat.add_comm _ _
  have hc : (PySem.W.clsIn X.K C).isSome = true := by
    obtain ⟨cd, hc, _⟩ := PySem.W.any_some c.hd
    rw [hc]; rfl
  refine PySem.W.get_bind I1.kIn J (PySem.W.plainGet_of (c.get m)).1 (PySem.W.findObj_data hc hp.at_ hp.get hp.tak) (PySem.W.plainGet_of (c.get m)).2 (wpAny_call (PySem.W.prop_get (s := { s1 with toks := s1.toks + 1 }) I1.kIn hrec ?_))
  refine codeAny_mono (F.run X.A.in1 X.stack { s1 with toks := s1.toks + 1 } H1 ⟨[.ref a], []⟩ (.ref a :: ds) (.ref a :: dvs) Q E1 hr.in1 I2.env0.in1 (hb _ [.ref a] I2.kIn hl) (.cons rfl hd) q) ?_
  rintro (er | fl) s' hq
  · exact False.elim (hx pins σ H1 { s1 with toks := s1.toks + 1 } er s' (I2.wish _) hq)
  · cases fl with
    | ret u =>
      obtain ⟨v, H', I3, rv, q3⟩ := I2.after hq
      show wpAny _ _ (handedOut u) _ _ _
      rw [PySem.W.handedOut_of (handed_of rv)]
      exact wpAny_pure ⟨v, H', I3, rv, q3⟩
    | next => exact False.elim hq
    | brk => exact False.elim hq
    | cont => exact False.elim hq⟩
/-! by keywords alone -/
def tCallW (sp : Sp) (gV : List V → List V) (m : Nat) (E : XK) (tk : TA) : TE := fun σ H Q => tk σ H fun zs H2 => zs.length = m ∧ sp (gV zs) H2 Q E
theorem pe_callW (F : FnG X.prog X.w X.K X.mg X.base CX k f fd ps sp) (hr : RmG k X.A) (hg : Gl X x) (hm : X.mg x = some (.ref f)) (hk : PySem.W.keepIn X.K (.ref f) = true) (hb : KBn X.K fd ps 0 ks gg gV) (hx : Passes CX X E1) (hkw : PK X kws tk)
    (hall : (backToKw pos (keywordEach kws X.env)).all (·.1.isSome) = true := by rfl) (hks : (backToKw pos (keywordEach kws X.env)).filterMap (·.1) = ks := by rfl) (hdb : (x == ("__debug__" : Str)) = false := by decide)
    (hpl : ((backTo pos (starEach [] X.env)).any (·.1) || (backToKw pos (keywordEach kws X.env)).any (·.1.isNone)) = false := by rfl) : PE X (.Call (.Name x p) [] kws pos) (tCallW sp (gV []) ks.length E1 tk) := ⟨fun pins s σ H Q I h => by
  refine wpAny_Call_Name_kw (ld_glob I hg hm ?_ hdb)
  refine PySem.W.callWith_KW0 (h₀ := X.base) I.ok.mod.kin hk hall ?_ hpl
  refine thn (hkw.run pos pins s σ H _ I h) ?_
  rintro ws s2 ⟨zs, H2, I2, rz, l2, q2⟩
  refine ⟨I2.kIn, ?_⟩
  rw [hks]
  have r2 := hb.rel (.nil : Vals [] []) rz
  refine wpAny_call (codeAny_mono (F.run X.A X.stack s2 H2 ⟨[], ks.zip ws⟩ (gg [] ws) (gV [] zs) Q E1 hr I2.env0 (hb.to s2 [] ws I2.kIn rfl (rz.length.symm.trans l2)) r2 q2) ?_)
  rintro (e | fl) s' hq
  · exact hx pins σ H2 s2 e s' I2 hq
  · cases fl <;> first | exact I2.after hq | exact False.elim hq⟩
def tMakeW (C : Addr) (sp : Sp) (gV : List V → List V → List V) (m : Nat) (E : XK) (tk : TA) : TE := fun σ H Q => tk σ H fun zs H1 => zs.length = m ∧ ∀ x dx, H1 x = none → H1 dx = none → dx ≠ x →
  sp (gV [.ref x] zs) (upd (upd H1 dx (.own x)) x (.ins C dx [])) (fun v H2 => v = .non ∧ Q (.ref x) H2) E
theorem pe_makeW (M : Mk X.K C f) (F : FnG X.prog X.w X.K X.mg X.base CX k f fd ps sp) (hr : RmG (k + 1) X.A) (hg : Gl X x) (hm : X.mg x = some (.ref C)) (hb : KBn X.K fd ps 1 ks gg gV) (hx : Passes CX X E1) (hkw : PK X kws tk)
    (hall : (backToKw pos (keywordEach kws X.env)).all (·.1.isSome) = true := by rfl) (hks : (backToKw pos (keywordEach kws X.env)).filterMap (·.1) = ks := by rfl) (hdb : (x == ("__debug__" : Str)) = false := by decide)
    (hpl : ((backTo pos (starEach [] X.env)).any (·.1) || (backToKw pos (keywordEach kws X.env)).any (·.1.isNone)) = false := by rfl) : PE X (.Call (.Name x p) [] kws pos) (tMakeW C sp gV ks.length E1 tk) := ⟨fun pins s σ H Q I h => by
  refine wpAny_Call_Name_kw (ld_glob I hg hm ?_ hdb)
  refine PySem.W.callWith_KW0 (h₀ := X.base) I.ok.mod.kin M.kp hall ?_ hpl
  refine thn (hkw.run pos pins s σ H _ I h) ?_
  rintro ws s2 ⟨zs, H2, I2, rz, l2, q2⟩
  refine ⟨I2.kIn, ?_⟩
  rw [hks]
  have hq := q2 (s2.heap.objs.size + 1) s2.heap.objs.size (I2.hok.fresh (Nat.le_succ _)) (I2.hok.fresh (Nat.le_refl _)) (Nat.ne_of_lt (Nat.lt_succ_self _))
  have J := Inv.made (C := C) I2
  have r2 := hb.rel (.cons rfl .nil : Vals [V.ref (s2.heap.objs.size + 1)] [Value.ref (s2.heap.objs.size + 1)]) rz
  refine wpAny_call (make_map (f := f) I2.kIn M.makes M.init (beq_iff_eq.mp M.fn) (codeAny_mono (F.run _ X.stack _ _ ⟨[Value.ref (s2.heap.objs.size + 1)], ks.zip ws⟩ (gg [Value.ref (s2.heap.objs.size + 1)] ws) _ _ E1 (hr.make C [] (ks.zip ws))
    (J.env0.make C [] (ks.zip ws)) (hb.to _ [Value.ref (s2.heap.objs.size + 1)] ws J.kIn rfl (rz.length.symm.trans l2)) r2 hq) ?_))
  rintro (e | fl) s' hq'
  · exact hx pins σ _ _ e s' J hq'
  · cases fl with
    | ret u =>
      obtain ⟨v, H', J3, rv, rfl, q3⟩ := J.after hq'
      exact ⟨rv, ⟨V.ref (s2.heap.objs.size + 1), H', J3, rfl, q3⟩⟩
    | next => exact False.elim hq'
    | brk => exact False.elim hq'
    | cont => exact False.elim hq'⟩
end
end L2

set_option Elab.async false
set_option linter.all false
set_option maxRecDepth 100000
set_option maxHeartbeats 1000000
namespace L3
open PySem L2
section
variable {X : Cx} {K : PySem.W.Frag} {W : WX} {e a b c : Expr} {es : List Expr} {t : TE} {pos : Pos}

/-! ### slots stored -/
theorem Rs.set {b : B} {δ : List S} {σ : L2.St} {F H : Hp} {i : Nat} {s : S} {x : Option V} (r : Rs K b δ σ F H) (h : ∀ y, x = some y → SlotOk K b F H i (some y) s) (hx : x = none → s = .no)
    (ho : s.owned = true → ∀ p, x = some (.ref p) → ∀ (j : Nat) (t : S), j ≠ i → δ[j]? = some t → t.owned = true → σ[j]? ≠ some (some (.ref p))) : Rs K b (δ.set i s) (σ.set i x) F H := by
  refine ⟨by rw [List.length_set, List.length_set, r.len], fun j t y h1 h2 => ?_, fun j k t u p hjk h1 h2 o1 o2 h3 h4 => ?_⟩
  · by_cases e : i = j
    · subst e
      have hi : i < δ.length := by
        have := (List.getElem?_eq_some_iff.mp h1).1
        rwa [List.length_set] at this
      rw [List.getElem?_set_self hi] at h1
      rw [List.getElem?_set_self (show i < List.length σ by rw [r.len]; exact hi)] at h2
      cases h1; cases h2
      cases x with
      | some z => exact h z rfl
      | none => rw [hx rfl]; trivial
    · rw [List.getElem?_set_ne e] at h1 h2
      exact r.sl j t y h1 h2
  · have len1 : ∀ {k u}, (δ.set i s)[k]? = some u → k < δ.length := fun {k u} h => by
      have := (List.getElem?_eq_some_iff.mp h).1
      rwa [List.length_set] at this
    have l1 := len1 h1
    have l2 := len1 h2
    by_cases e : i = j
    · subst e
      rw [List.getElem?_set_self l1] at h1
      rw [List.getElem?_set_self (show i < List.length σ by rw [r.len]; exact l1)] at h3
      rw [List.getElem?_set_ne hjk] at h2 h4
      cases h1; cases h3
      exact ho o1 p rfl k u (fun z => hjk z.symm) h2 o2 h4
    · by_cases e2 : i = k
      · subst e2
        rw [List.getElem?_set_self l2] at h2
        rw [List.getElem?_set_self (show i < List.length σ by rw [r.len]; exact l2)] at h4
        rw [List.getElem?_set_ne e] at h1 h3
        cases h2; cases h4
        exact ho o2 p rfl j t hjk h1 o1 h3
      · rw [List.getElem?_set_ne e] at h1 h3
        rw [List.getElem?_set_ne e2] at h2 h4
        exact r.sep j k t u p hjk h1 h2 o1 o2 h3 h4
theorem Rs.setV {b : B} {δ : List S} {σ : L2.St} {F H : Hp} {i : Nat} {d : D} {v : V} (r : Rs K b δ σ F H) (h : Rep K F d v) : Rs K b (δ.set i (.v d)) (σ.set i (some v)) F H :=
  r.set (fun y e => by cases e; exact ⟨v, rfl, h⟩) (fun e => by cases e) (fun o => by cases o)
theorem Rs.setL {b : B} {δ : List S} {σ : L2.St} {F H : Hp} {i : Nat} {xs : List D} {p : Addr} (r : Rs K b δ σ F H) (n : NewAt K b δ σ F H xs p) : Rs K b (δ.set i (.ol false xs)) (σ.set i (some (.ref p))) F H :=
  r.set (fun y e => by cases e; exact ⟨p, rfl, n.1, n.2.1⟩) (fun e => by cases e) (fun o q e j t hj h1 o1 h2 => by cases e; exact n.2.2 j t h1 o1 h2)
theorem Rs.fin {b : B} {δ : List S} {σ : L2.St} {F H : Hp} (r : Rs K b δ σ F H) : Fin K b δ F H := fun i s p h hp hi => by
  have o : s.owned = true := by cases s <;> first | rfl | cases hi
  obtain ⟨q, _, h2, h3⟩ := r.own h o
  rw [hi, if_pos rfl, hp] at h3
  cases h3
  exact h2

/-! ### statements -/
def wSeq (u w : Ws) : Ws := fun δ E => u δ { E with nx := fun δ1 => w δ1 E }
theorem ts_seq {u w : Ws} {Dn : Ends} {σ : L2.St} {H : Hp} (h : TrS K W (wSeq u w) Dn σ H) : tSeq (TrS K W u) (TrS K W w) Dn σ H := by
  obtain ⟨b, δ, F, E, wf, r, q, k1, k2, k3, k4, k5⟩ := h
  refine ⟨b, δ, F, _, wf, r, q, fun δ1 q1 σ1 F1 H1 wf1 s1 r1 => ?_, k2, k3, k4, k5⟩
  exact ⟨b, δ1, F1, E, wf1, r1, q1, fun δ2 q2 σ2 F2 H2 wf2 s2 r2 => k1 δ2 q2 σ2 F2 H2 wf2 (s1.trans s2) r2, fun δ2 q2 σ2 F2 H2 wf2 s2 r2 => k2 δ2 q2 σ2 F2 H2 wf2 (s1.trans s2) r2, fun δ2 q2 σ2 F2 H2 wf2 s2 r2 => k3 δ2 q2 σ2 F2 H2 wf2 (s1.trans s2) r2,
    fun rv δ2 q2 v F2 H2 wf2 s2 => k4 rv δ2 q2 v F2 H2 wf2 (s1.trans s2), fun er δ2 q2 σ2 F2 H2 wf2 s2 r2 => k5 er δ2 q2 σ2 F2 H2 wf2 (s1.trans s2) r2⟩
theorem ss_cons {st : Stmt} {rest : List Stmt} {u w : Ws} (h1 : PS X st (TrS K W u)) (h2 : PSs X rest (TrS K W w)) : PSs X (st :: rest) (TrS K W (wSeq u w)) := pss_imp (pss_cons h1 h2) fun _ _ _ => ts_seq
theorem ss_one {st : Stmt} {u : Ws} (h1 : PS X st (TrS K W u)) : PSs X [st] (TrS K W u) := pss_one h1
def wNx : Ws := fun δ E => E.nx δ
theorem ts_nx {Dn : Ends} {σ : L2.St} {H : Hp} (h : TrS K W wNx Dn σ H) : tNext Dn σ H := by
  obtain ⟨b, δ, F, E, wf, r, q, k1, k2, k3, k4, k5⟩ := h
  exact k1 δ q σ F H wf (Same.refl _) r
theorem ss_nil : PSs X [] (TrS K W wNx) := pss_imp pss_nil fun _ _ _ => ts_nx
theorem s_pass : PS X (.Pass pos) (TrS K W wNx) := ps_imp ps_pass fun _ _ _ => ts_nx
theorem s_brk : PS X (.Break pos) (TrS K W fun δ E => E.bk δ) := ps_imp ps_break fun Dn σ H h => by
  obtain ⟨b, δ, F, E, wf, r, q, k1, k2, k3, k4, k5⟩ := h
  exact k2 δ q σ F H wf (Same.refl _) r
theorem s_cont : PS X (.Continue pos) (TrS K W fun δ E => E.ct δ) := ps_imp ps_continue fun Dn σ H h => by
  obtain ⟨b, δ, F, E, wf, r, q, k1, k2, k3, k4, k5⟩ := h
  exact k3 δ q σ F H wf (Same.refl _) r
/-- code that is not told -/
def wOff : Ws := fun _ _ => False
theorem s_off {st : Stmt} : PS X st (TrS K W wOff) := ps_imp ps_never fun Dn σ H h => by
  obtain ⟨b, δ, F, E, wf, r, q, _⟩ := h
  exact q.elim
theorem ss_off {st : List Stmt} : PSs X st (TrS K W wOff) := ⟨fun pins s σ H D I h => by
  obtain ⟨b, δ, F, E, wf, r, q, _⟩ := h
  exact q.elim⟩
def wSet (i : Nat) (u : Wt) : Ws := fun δ E => u δ (fun d δ1 => E.nx (δ1.set i (.v d))) E.xx
def wSetL (i : Nat) (u : Wl) : Ws := fun δ E => u δ (fun xs δ1 => E.nx (δ1.set i (.ol false xs))) E.xx
theorem k5_of {b : B} {F : Hp} {σ : L2.St} {Y : Er → List S → Prop} (k5 : ∀ er δ', Y er δ' → ∀ σ' F' H', Wf b F' H' → Same F F' → Rs K b δ' σ' F' H' → ∀ cls dd, RepX K F' er cls dd → W cls dd σ' H') : ∀ er δ', Y er δ' → Xp K W b F σ er δ' :=
  fun er δ' h cls dd F' H' wf s r x => k5 er δ' h σ F' H' wf s r cls dd x
theorem s_set (i : Nat) {x : Str} {u : Wt} {pos' : Pos} (hN : X.N.Nodup) (h : PE X e (Tr K W u)) (hi : X.N[i]? = some x := by rfl) (hx : Loc X.env.scope x := by first | exact Or.inl rfl | exact Or.inr rfl) (hs : swapsWith e (some (.Name x pos')) pos.line X.env = pure false := by rfl)
    (hf : X.fn x = true ∨ X.env.scope.names.lookup x = some .local := by first | exact .inl rfl | exact .inr rfl | assumption) : PS X (.Assign [.Name x pos'] e pos) (TrS K W (wSet i u)) := ps_imp (ps_set hN hi hx h hs hf) fun Dn σ H h => by
  obtain ⟨b, δ, F, E, wf, r, q, k1, k2, k3, k4, k5⟩ := h
  exact ⟨b, δ, F, _, _, wf, r, q, fun d δ1 q1 v F1 H1 wf1 s1 r1 rx => k1 _ q1 _ F1 H1 wf1 s1 (r1.setV rx), k5_of k5⟩
theorem s_setL (i : Nat) {x : Str} {u : Wl} {pos' : Pos} (hN : X.N.Nodup) (h : PE X e (TrL K W u)) (hi : X.N[i]? = some x := by rfl) (hx : Loc X.env.scope x := by first | exact Or.inl rfl | exact Or.inr rfl) (hs : swapsWith e (some (.Name x pos')) pos.line X.env = pure false := by rfl)
    (hf : X.fn x = true ∨ X.env.scope.names.lookup x = some .local := by first | exact .inl rfl | exact .inr rfl | assumption) : PS X (.Assign [.Name x pos'] e pos) (TrS K W (wSetL i u)) := ps_imp (ps_set hN hi hx h hs hf) fun Dn σ H h => by
  obtain ⟨b, δ, F, E, wf, r, q, k1, k2, k3, k4, k5⟩ := h
  exact ⟨b, δ, F, _, _, wf, r, q, fun d δ1 q1 p F1 H1 wf1 s1 r1 n => k1 _ q1 _ F1 H1 wf1 s1 (r1.setL n), k5_of k5⟩
def wExpr (u : Wt) : Ws := fun δ E => u δ (fun _ δ1 => E.nx δ1) E.xx
theorem s_expr {u : Wt} (h : PE X e (Tr K W u)) (hs : swapsWith e none pos.line X.env = pure false := by rfl) : PS X (.Expr e pos) (TrS K W (wExpr u)) := ps_imp (ps_expr h hs) fun Dn σ H h => by
  obtain ⟨b, δ, F, E, wf, r, q, k1, k2, k3, k4, k5⟩ := h
  exact ⟨b, δ, F, _, _, wf, r, q, fun d δ1 q1 v F1 H1 wf1 s1 r1 rx => k1 _ q1 _ F1 H1 wf1 s1 r1, k5_of k5⟩
def wRet (u : Wt) : Ws := fun δ E => u δ (fun d δ1 => E.rt (.d d) δ1) E.xx
theorem s_ret {u : Wt} (h : PE X e (Tr K W u)) : PS X (.Return (some e) pos) (TrS K W (wRet u)) := ps_imp (ps_ret h) fun Dn σ H h => by
  obtain ⟨b, δ, F, E, wf, r, q, k1, k2, k3, k4, k5⟩ := h
  exact ⟨b, δ, F, _, _, wf, r, q, fun d δ1 q1 v F1 H1 wf1 s1 r1 rx => k4 _ _ q1 _ F1 H1 wf1 s1 r1.fin rx, k5_of k5⟩
/-- a list of its own is handed back -/
def wRetL (u : Wl) : Ws := fun δ E => u δ (fun xs δ1 => E.rt (.l xs) δ1) E.xx
theorem s_retL {u : Wl} (h : PE X e (TrL K W u)) : PS X (.Return (some e) pos) (TrS K W (wRetL u)) := ps_imp (ps_ret h) fun Dn σ H h => by
  obtain ⟨b, δ, F, E, wf, r, q, k1, k2, k3, k4, k5⟩ := h
  exact ⟨b, δ, F, _, _, wf, r, q, fun d δ1 q1 p F1 H1 wf1 s1 r1 n => k4 _ _ q1 _ F1 H1 wf1 s1 r1.fin ⟨p, rfl, n.1, n.2.1⟩, k5_of k5⟩
/-- the slot's own list is handed back -/
def wRetO (i : Nat) : Ws := fun δ E => ∃ xs, δ[i]? = some (.ol false xs) ∧ E.rt (.l xs) δ
theorem s_retO (i : Nat) {x : Str} (hN : X.N[i]? = some x := by rfl) (hv : Vis X.env.scope x := by first | exact Or.inl rfl | exact Or.inr (Or.inl rfl) | exact Or.inr (Or.inr rfl)) (hd : (x == ("__debug__" : Str)) = false := by decide)
    (hcd : (x == ("__classdict__" : Str)) = false := by decide) {p1 : Pos} : PS X (.Return (some (.Name x p1)) pos) (TrS K W (wRetO i)) := ps_imp (ps_ret (pe_var hN hv hd hcd)) fun Dn σ H h => by
  obtain ⟨b, δ, F, E, wf, r, ⟨xs, hi, q⟩, k1, k2, k3, k4, k5⟩ := h
  obtain ⟨p, hp, ho, h0⟩ := r.own hi rfl
  exact ⟨_, hp, k4 _ _ q _ F H wf (Same.refl _) r.fin ⟨p, rfl, ho, by simpa [S.inp] using h0⟩⟩
theorem s_retN : PS X (.Return none pos) (TrS K W fun δ E => E.rt (.d .non) δ) := ps_imp ps_retN fun Dn σ H h => by
  obtain ⟨b, δ, F, E, wf, r, q, k1, k2, k3, k4, k5⟩ := h
  exact k4 _ _ q _ F H wf (Same.refl _) r.fin rfl
def wIfS (t : Wb) (u w : Ws) : Ws := fun δ E => t δ (fun c δ1 => if c = true then u δ1 E else w δ1 E) E.xx
theorem s_if {t : Wb} {u w : Ws} {st1 st2 : List Stmt} (h : PT X c (TrT K W t)) (h1 : PSs X st1 (TrS K W u)) (h2 : PSs X st2 (TrS K W w)) : PS X (.If c st1 st2 pos) (TrS K W (wIfS t u w)) := ps_imp (ps_if h h1 h2) fun Dn σ H h => by
  obtain ⟨b, δ, F, E, wf, r, q, k1, k2, k3, k4, k5⟩ := h
  refine ⟨b, δ, F, _, _, wf, r, q, fun c δ1 q1 F1 H1 wf1 s1 r1 => ?_, k5_of k5⟩
  have go : ∀ z : Ws, z δ1 E → TrS K W z Dn σ H1 := fun z q => ⟨b, δ1, F1, E, wf1, r1, q, fun δ2 q2 σ2 F2 H2 wf2 s2 r2 => k1 δ2 q2 σ2 F2 H2 wf2 (s1.trans s2) r2, fun δ2 q2 σ2 F2 H2 wf2 s2 r2 => k2 δ2 q2 σ2 F2 H2 wf2 (s1.trans s2) r2, fun δ2 q2 σ2 F2 H2 wf2 s2 r2 => k3 δ2 q2 σ2 F2 H2 wf2 (s1.trans s2) r2,
    fun rv δ2 q2 v F2 H2 wf2 s2 => k4 rv δ2 q2 v F2 H2 wf2 (s1.trans s2), fun er δ2 q2 σ2 F2 H2 wf2 s2 r2 => k5 er δ2 q2 σ2 F2 H2 wf2 (s1.trans s2) r2⟩
  cases c with
  | true =>
    rw [if_pos rfl] at q1
    exact iteT (go _ q1)
  | false =>
    rw [if_neg Bool.false_ne_true] at q1
    exact iteF (go _ q1)

/-! ### defs -/
abbrev Fn := List S → (Rv → List S → Prop) → (Er → List S → Prop) → Prop
def spF (K : PySem.W.Frag) (n : Nat) (f : Fn) : Sp := fun vs H Q E => ∃ F P as R Y, vs.length = n ∧ Same F H ∧ (∀ i p, P i = some p → ∃ o, H p = some o) ∧ Rs K ⟨F, H, P⟩ as (vs.map some) F H ∧ f as R Y ∧
  (∀ r fin, R r fin → ∀ v F' H', Wf ⟨F, H, P⟩ F' H' → Fin K ⟨F, H, P⟩ fin F' H' → RtOk K ⟨F, H, P⟩ F' H' r v → Q v H') ∧
  (∀ er fin, Y er fin → ∀ F' H', Wf ⟨F, H, P⟩ F' H' → ∀ cls dd, RepX K F' er cls dd → E cls dd H')
/-- what a body does: as the slots of its parameters, m further slots -/
def fnOf (n m : Nat) (w : Ws) : Fn := fun as R Y => as.length = n ∧ w (as ++ List.replicate m S.no) { nx := fun δ => R (.d .non) δ, rt := R, bk := fun _ => False, ct := fun _ => False, xx := Y }
theorem body_ok {N : List Str} {n m : Nat} {w : Ws} {vs : List V} {H : Hp} {Q : VK} {E : XK} (h : spF K n (fnOf n m w) vs H Q E) (hm : N.length = n + m) : TrS K (fun cls d _ H => E cls d H) w { nx := fun _ H' => Q .non H', rt := Q, bk := fun _ _ => False, ct := fun _ _ => False } (L2.start N vs) H := by
  obtain ⟨F, P, as, R, Y, hl, sF, pn, r, ⟨_, q⟩, k1, k2⟩ := h
  have hst : L2.start N vs = vs.map some ++ List.replicate m none := by
    unfold L2.start
    rw [hl, hm, Nat.add_sub_cancel_left]
  have la : as.length = n := by
    have := r.len
    rw [List.length_map] at this
    omega
  have wf0 : Wf ⟨F, H, P⟩ F H := ⟨sF, Same.refl _, fun _ _ _ e => e, fun _ _ e => .inl e, fun _ e => e, pn⟩
  have get : ∀ {i s}, (as ++ List.replicate m S.no)[i]? = some s → s ≠ .no → as[i]? = some s ∧ i < n := fun {i s} h hn => by
    by_cases hi : i < as.length
    · rw [List.getElem?_append_left hi] at h
      exact ⟨h, by omega⟩
    · rw [List.getElem?_append_right (by omega), List.getElem?_replicate] at h
      split at h
      · cases h; exact absurd rfl hn
      · cases h
  have gv : ∀ {i}, i < n → (vs.map some ++ List.replicate m none)[i]? = (vs.map some)[i]? := fun {i} hi => List.getElem?_append_left (by rw [List.length_map]; omega)
  rw [hst]
  refine ⟨⟨F, H, P⟩, as ++ List.replicate m S.no, F, { nx := fun δ => R (.d .non) δ, rt := R, bk := fun _ => False, ct := fun _ => False, xx := Y }, wf0, ⟨?_, fun i s x h1 h2 => ?_, fun i j s t p hij h1 h2 o1 o2 h3 h4 => ?_⟩, q, fun δ' q1 σ' F' H' wf' s' r' => k1 (.d .non) δ' q1 .non F' H' wf' r'.fin rfl, fun _ q => q.elim, fun _ q => q.elim,
    fun rv δ' q1 v F' H' wf' s' fin ok => k1 _ _ q1 _ F' H' wf' fin ok, fun er δ' q1 σ' F' H' wf' s' r' cls dd x => k2 er δ' q1 F' H' wf' cls dd x⟩
  · rw [List.length_append, List.length_append, List.length_map, List.length_replicate, List.length_replicate]; omega
  · by_cases hs : s = .no
    · subst hs; trivial
    · obtain ⟨h1', hi⟩ := get h1 hs
      rw [gv hi] at h2
      exact r.sl i s x h1' h2
  · have n1 : s ≠ .no := fun z => by subst z; cases o1
    have n2 : t ≠ .no := fun z => by subst z; cases o2
    obtain ⟨h1', hi⟩ := get h1 n1
    obtain ⟨h2', hj⟩ := get h2 n2
    rw [gv hi] at h3
    rw [gv hj] at h4
    exact r.sep i j s t p hij h1' h2' o1 o2 h3 h4
variable {P : Program} {w : World} {mg : Str → Option Value} {base : Heap}
theorem def_ok {x qual : Str} {st : Stmt} {f : Addr} {fd : FuncData} {N ps : List Str} {k n m : Nat} {u : Ws} (F : L2.Fun K x qual st f fd) (S : FnScope N ps (defScope st)) (hn : ps.length = n) (hm : N.length = n + m)
    (hbody : ∀ (cdv : Value) (A : Around) (outer : List Env) (s : Shared) (H : Hp) (E : XK), RmG k (A.deeper (PyProof.Rows.envOfC qual (defScope st) s.heap.objs.size f cdv)) →
      PSs (cxOf (L2.CX P w) P w K mg base N qual (defScope st) f cdv A outer s H E) (defBody st) (TrS K (fun cls d _ H => E cls d H) u)) : FnG P w K mg base (L2.CX P w) (k + 1) f fd ps (spF K n (fnOf n m u)) := by
  obtain ⟨oc, od, kV, doc, pm, an, cdv, ct, osl, rfl, lk, hcd⟩ := F.ex
  exact fnG_of lk hcd S (fun vs H Q E h => by obtain ⟨_, _, _, _, _, hl, _⟩ := h; omega) fun A outer s H vs Q E hr h => ⟨_, hbody cdv A outer s H E hr, body_ok h hm⟩
/-- .. with defaults -/
theorem def_okD {x qual : Str} {st : Stmt} {f : Addr} {fd : FuncData} {N ps : List Str} {k n m : Nat} {u : Ws} {dvs : List V} {kws : List (Str × V)} (F : FunD K x qual (defArgs st) (defBody st) (defScope st) dvs kws f fd) (S : FnScope N ps (defScope st)) (hn : ps.length = n) (hm : N.length = n + m)
    (hbody : ∀ (cdv : Value) (A : Around) (outer : List Env) (s : Shared) (H : Hp) (E : XK), RmG k (A.deeper (PyProof.Rows.envOfC qual (defScope st) s.heap.objs.size f cdv)) →
      PSs (cxOf (L2.CX P w) P w K mg base N qual (defScope st) f cdv A outer s H E) (defBody st) (TrS K (fun cls d _ H => E cls d H) u)) : FnG P w K mg base (L2.CX P w) (k + 1) f fd ps (spF K n (fnOf n m u)) := by
  obtain ⟨oc, od, dV, kV, doc, pm, an, cdv, ct, osl, rfl, lk, hcd, _, _⟩ := F.ex
  exact fnG_of lk hcd S (fun vs H Q E h => by obtain ⟨_, _, _, _, _, hl, _⟩ := h; omega) fun A outer s H vs Q E hr h => ⟨_, hbody cdv A outer s H E hr, body_ok h hm⟩
end
end L3

set_option Elab.async false
set_option linter.all false
set_option maxRecDepth 100000
set_option maxHeartbeats 1000000
namespace L3
open PySem L2
section
variable {X : Cx} {K : PySem.W.Frag} {W : WX} {e a b c o : Expr} {es : List Expr} {t : TE} {pos : Pos}

theorem ext_of_call {F H H2 F' H' : Hp} {P : Nat → Option Addr} (w : Wf ⟨F, H2, P⟩ F' H') (s : Same H H2) (hp : ∀ i x, P i = some x → H x = none) : Ext F H F' H' := by
  refine ⟨w.ff, w.fh, fun x u e => w.keep x u (fun i hi => ?_) (s _ _ e), fun x u e => ?_⟩
  · rw [hp i x hi] at e; cases e
  · rcases w.new x u e with q | q
    · exact .inl q
    · exact .inr (s.free q)
theorem Rs.notNew {b : B} {δ : List S} {σ : L2.St} {F H : Hp} (r : Rs K b δ σ F H) {p : Addr} (n : H p = none) : ∀ (j : Nat) (s : S), δ[j]? = some s → s.owned = true → σ[j]? ≠ some (some (.ref p)) := fun j s hj o e => by
  obtain ⟨q, hq, ho, _⟩ := r.own hj o
  rw [hq] at e
  have e' : q = p := by cases e; rfl
  subst e'
  obtain ⟨_, ho⟩ := ho
  cases s with
  | no => cases o
  | v d => cases o
  | ex _ _ _ _ _ => cases o
  | ol k xs => obtain ⟨_, h1, _⟩ := ho; rw [n] at h1; cases h1
  | oo k c ns xs => obtain ⟨_, _, h1, _⟩ := ho; rw [n] at h1; cases h1
/-- the slots of arguments that are trees -/
theorem rs_args {F H : Hp} {P : Nat → Option Addr} : ∀ {ds : List D} {vs : List V}, Reps K F ds vs → Rs K ⟨F, H, P⟩ (ds.map S.v) (vs.map some) F H := fun {ds vs} h => by
  refine ⟨by rw [List.length_map, List.length_map]; exact h.length, fun i s x h1 h2 => ?_, fun i j s t p hij h1 h2 o1 => ?_⟩
  · rw [List.getElem?_map] at h1 h2
    cases q : ds[i]? with
    | none => rw [q] at h1; cases h1
    | some d =>
      rw [q] at h1
      cases h1
      obtain ⟨v, hv, rv⟩ := h.get q
      rw [hv] at h2
      cases h2
      exact ⟨v, rfl, rv⟩
  · rw [List.getElem?_map] at h1
    cases q : ds[i]? with
    | none => rw [q] at h1; cases h1
    | some d => rw [q] at h1; cases h1; cases o1
def rvD : Rv → D
  | .d d => d
  | .l xs => .lst xs
/-- what came back, as a tree -/
theorem rv_tree {b : B} {δ : List S} {σ : L2.St} {F H H2 F' H' : Hp} {P : Nat → Option Addr} {rv : Rv} {v : V} (wf : Wf b F H) (r : Rs K b δ σ F H) (w : Wf ⟨F, H2, P⟩ F' H') (s : Same H H2) (hp : ∀ i x, P i = some x → H x = none)
    (ok : RtOk K ⟨F, H2, P⟩ F' H' rv v) : ∃ F2, Wf b F2 H' ∧ Same F F2 ∧ Rs K b δ σ F2 H' ∧ Rep K F2 (rvD rv) v ∧ Same F' F2 := by
  have ex := ext_of_call w s hp
  cases rv with
  | d d => exact ⟨F', wf.ext ex, ex.ff, r.ext ex, ok, Same.refl _⟩
  | l xs =>
    obtain ⟨p, rfl, ho, h0⟩ := ok
    have n : H p = none := s.free h0
    have na : NewAt K b δ σ F' H' xs p := ⟨ho, wf.live p n, r.notNew n⟩
    obtain ⟨F2, a1, a2, a3, a4⟩ := freeze (wf.ext ex) (r.ext ex) na
    exact ⟨F2, a1, ex.ff.trans a2, a3, a4, a2⟩
/-- f(..), all arguments trees; dd: the defaults that fill up -/
def wCall (f : Fn) (dd : List D) (u : Wa) : Wt := fun δ Q Y => u δ (fun as δ1 => ∃ ds, trees as = some ds ∧ f ((ds ++ dd).map S.v) (fun r _ => Q (rvD r) δ1) (fun er _ => Y er δ1)) Y
def wCallL (f : Fn) (dd : List D) (u : Wa) : Wl := fun δ Q Y => u δ (fun as δ1 => ∃ ds, trees as = some ds ∧ f ((ds ++ dd).map S.v) (fun r _ => ∃ xs, r = .l xs ∧ Q xs δ1) (fun er _ => Y er δ1)) Y
theorem repX_mono {F F' : Hp} {er : Er} {cls : Value} {dd : Option Addr} (s : Same F F') (x : RepX K F er cls dd) : RepX K F' er cls dd := by
  obtain ⟨c, fs⟩ := er
  obtain ⟨h1, h2⟩ := x
  refine ⟨h1, ?_⟩
  cases fs with
  | nil => exact h2
  | cons y ys =>
    obtain ⟨a, vs, h3, h4, h5⟩ := h2
    exact ⟨a, vs, h3, s _ _ h4, h5.mono s⟩
/-- the promise of a call whose arguments are trees -/
theorem sp_call {b : B} {δ : List S} {σ : L2.St} {F H : Hp} {f : Fn} {ds : List D} {vs : List V} {R : Rv → List S → Prop} {Y : Er → List S → Prop} {n : Nat} {Q : VK} (wf : Wf b F H) (r : Rs K b δ σ F H) (rr : Reps K F ds vs) (hn : vs.length = n)
    (q : f (ds.map S.v) R Y) (k : ∀ rv fin, R rv fin → ∀ v F' H', Wf ⟨F, H, fun _ => none⟩ F' H' → RtOk K ⟨F, H, fun _ => none⟩ F' H' rv v → Q v H')
    (kx : ∀ er fin, Y er fin → ∀ F' H', Wf b F' H' → Same F F' → Rs K b δ σ F' H' → ∀ cls dd, RepX K F' er cls dd → W cls dd σ H') : spF K n f vs H Q (WE W σ) :=
  ⟨F, fun _ => none, _, R, Y, hn, wf.fh, (fun _ _ z => by cases z), rs_args rr, q, fun rv fin h v F' H' w _ ok => k rv fin h v F' H' w ok, fun er fin h F' H' w cls dd x => by
    have ex := ext_of_call w (Same.refl _) fun i x z => by cases z
    exact kx er fin h F' H' (wf.ext ex) ex.ff (r.ext ex) cls dd x⟩
theorem tr_call {f : Fn} {dd : List D} {dvs : List V} {n : Nat} {u : Wa} {σ : L2.St} {H : Hp} {Q : VK} (hd : ∀ F, Reps K F dd dvs) (hf : ∀ as R Y, f as R Y → as.length = n) (h : Tr K W (wCall f dd u) σ H Q) : tCallSD (spF K n f) dvs (WE W) (TrA K W u) σ H Q := by
  obtain ⟨b, δ, F, Po, Px, wf, r, q, k, kx⟩ := h
  refine ⟨b, δ, F, _, _, wf, r, q, fun as δ1 q1 vs F1 H1 wf1 s1 r1 ra => ?_, kx⟩
  obtain ⟨ds, hds, q2⟩ := q1
  have rr := (reps_of ra hds).append (hd F1)
  have hn : (vs ++ dvs).length = n := by
    have := hf _ _ _ q2
    rw [List.length_map] at this
    rw [rr.length, this]
  refine sp_call wf1 r1 rr hn q2 (fun rv fin q3 v F' H' w ok => ?_) fun er fin q3 F' H' w s r' cls dd x => kx er δ1 q3 cls dd F' H' w (s1.trans s) r' x
  obtain ⟨F2, a1, a2, a3, a4, _⟩ := rv_tree wf1 r1 w (Same.refl _) (fun i x z => by cases z) ok
  exact k _ _ q3 v F2 H' a1 (s1.trans a2) a3 a4
theorem tr_callL {f : Fn} {dd : List D} {dvs : List V} {n : Nat} {u : Wa} {σ : L2.St} {H : Hp} {Q : VK} (hd : ∀ F, Reps K F dd dvs) (hf : ∀ as R Y, f as R Y → as.length = n) (h : TrL K W (wCallL f dd u) σ H Q) : tCallSD (spF K n f) dvs (WE W) (TrA K W u) σ H Q := by
  obtain ⟨b, δ, F, Po, Px, wf, r, q, k, kx⟩ := h
  refine ⟨b, δ, F, _, _, wf, r, q, fun as δ1 q1 vs F1 H1 wf1 s1 r1 ra => ?_, kx⟩
  obtain ⟨ds, hds, q2⟩ := q1
  have rr := (reps_of ra hds).append (hd F1)
  have hn : (vs ++ dvs).length = n := by
    have := hf _ _ _ q2
    rw [List.length_map] at this
    rw [rr.length, this]
  refine sp_call wf1 r1 rr hn q2 (fun rv fin q3 v F' H' w ok => ?_) fun er fin q3 F' H' w s r' cls dd x => kx er δ1 q3 cls dd F' H' w (s1.trans s) r' x
  obtain ⟨xs, rfl, q4⟩ := q3
  have ex := ext_of_call w (Same.refl _) fun i x z => by cases z
  obtain ⟨p, rfl, ho, h0⟩ := ok
  exact k _ _ q4 p F' H' (wf1.ext ex) (s1.trans ex.ff) (r1.ext ex) ⟨ho, wf1.live p h0, r1.notNew h0⟩
variable {k n : Nat} {f C : Addr} {fd : FuncData} {ps : List Str} {ff : Fn} {dvs : List V} {dvl : List Value} {dd : List D} {x m : Str} {p apos : Pos}
theorem x_call {u : Wa} (F : FnG X.prog X.w X.K X.mg X.base (L2.CX X.prog X.w) k f fd ps (spF X.K n ff)) (hr : RmG k X.A) (hm : X.mg x = some (.ref f)) (hk : PySem.W.keepIn X.K (.ref f) = true) (hb : Binds X.K fd ps dvl) (hd : Vals dvs dvl) (hdd : ∀ F, Reps X.K F dd dvs)
    (tk : Takes X W) (hf : ∀ as R Y, ff as R Y → as.length = n) (ha : PA X (e :: es) (TrA X.K W u)) (hg : Gl X x := by rfl) (hdb : (x == ("__debug__" : Str)) = false := by decide) (he : starEach (e :: es) X.env = (false, eval e X.env) :: starEach es X.env := by rfl)
    (hpl : (backTo pos (starEach es X.env)).any (·.1) = false := by rfl) : PE X (.Call (.Name x p) (e :: es) [] pos) (Tr X.K W (wCall ff dd u)) :=
  pe_imp (pe_callG F hr hg hm hk hb hd (fun σ => passAt tk σ) ha hdb he hpl) fun _ _ _ => tr_call hdd hf
theorem xl_call {u : Wa} (F : FnG X.prog X.w X.K X.mg X.base (L2.CX X.prog X.w) k f fd ps (spF X.K n ff)) (hr : RmG k X.A) (hm : X.mg x = some (.ref f)) (hk : PySem.W.keepIn X.K (.ref f) = true) (hb : Binds X.K fd ps dvl) (hd : Vals dvs dvl) (hdd : ∀ F, Reps X.K F dd dvs)
    (tk : Takes X W) (hf : ∀ as R Y, ff as R Y → as.length = n) (ha : PA X (e :: es) (TrA X.K W u)) (hg : Gl X x := by rfl) (hdb : (x == ("__debug__" : Str)) = false := by decide) (he : starEach (e :: es) X.env = (false, eval e X.env) :: starEach es X.env := by rfl)
    (hpl : (backTo pos (starEach es X.env)).any (·.1) = false := by rfl) : PE X (.Call (.Name x p) (e :: es) [] pos) (TrL X.K W (wCallL ff dd u)) :=
  pe_imp (pe_callG F hr hg hm hk hb hd (fun σ => passAt tk σ) ha hdb he hpl) fun _ _ _ => tr_callL hdd hf
end
end L3

set_option Elab.async false
set_option linter.all false
set_option maxRecDepth 100000
set_option maxHeartbeats 1000000

namespace L3
open PySem L2
section
variable {X : Cx} {K : PySem.W.Frag} {W : WX} {e a b c o : Expr} {es : List Expr} {t : TE} {pos : Pos}
variable {k n : Nat} {f C g pp : Addr} {fd : FuncData} {ps : List Str} {ff : Fn} {dvs : List V} {dvl : List Value} {dd : List D} {x m : Str} {p apos : Pos}

/-! ### instances made -/
def wMake (C : Addr) (f : Fn) (dd : List D) (u : Wa) : Wt := fun δ Q Y => u δ (fun as δ1 => ∃ ds, trees as = some ds ∧ f (.oo true C [] [] :: (ds ++ dd).map S.v) (fun r fin => ∃ ns xs, fin[0]? = some (.oo true C ns xs) ∧ Q (.obj C ns xs) δ1) (fun er _ => Y er δ1)) Y
/-- the promise of a call of an own __init__ -/
theorem make_core {f : Fn} {ds : List D} {vs : List V} {n : Nat} {bb : B} {δ1 : List S} {σ : L2.St} {F1 H1 : Hp} {Q : VK} {E : XK} {Po : D → List S → Prop} {Y : Er → List S → Prop} (wf1 : Wf bb F1 H1) (r1 : Rs K bb δ1 σ F1 H1) (rr : Reps K F1 ds vs) (hf : ∀ as R Y, f as R Y → as.length = n)
    (hn' : ∀ as R Y, f as R Y → f as (fun r fin => r = .d .non ∧ R r fin) Y)
    (q2 : f (.oo true C [] [] :: ds.map S.v) (fun r fin => ∃ ns xs, fin[0]? = some (.oo true C ns xs) ∧ Po (.obj C ns xs) δ1) Y)
    (k : ∀ d δ', Po d δ' → ∀ v F' H', Wf bb F' H' → Same F1 F' → Rs K bb δ' σ F' H' → Rep K F' d v → Q v H')
    (kx : ∀ er fin, Y er fin → ∀ F' H', Wf bb F' H' → Same F1 F' → Rs K bb δ1 σ F' H' → ∀ cls dd, RepX K F' er cls dd → E cls dd H')
    (x dx : Addr) (nx : H1 x = none) (ndx : H1 dx = none) (nex : dx ≠ x) :
    spF K n f (.ref x :: vs) (upd (upd H1 dx (.own x)) x (.ins C dx [])) (fun v H2 => v = .non ∧ Q (.ref x) H2) E := by
  have hn : (V.ref x :: vs).length = n := by
    have := hf _ _ _ q2
    rw [List.length_cons, List.length_map] at this
    rw [List.length_cons, rr.length, this]
  have sH : Same H1 (upd (upd H1 dx (.own x)) x (.ins C dx [])) := fun a o e => by
    rw [upd_ne (ne_of_none e nx), upd_ne (ne_of_none e ndx)]; exact e
  have nF : F1 x = none := wf1.fh.free nx
  let P : Nat → Option Addr := fun i => if i = 0 then some x else none
  have hP : ∀ i a, P i = some a → H1 a = none := fun i a e => by
    by_cases z : i = 0
    · subst z; cases e; exact nx
    · have : P i = none := if_neg z
      rw [this] at e; cases e
  have ra2 : Rs K ⟨F1, upd (upd H1 dx (.own x)) x (.ins C dx []), P⟩ (.oo true C [] [] :: ds.map S.v) ((V.ref x :: vs).map some) F1 (upd (upd H1 dx (.own x)) x (.ins C dx [])) := by
    have r0 : Rs K ⟨F1, upd (upd H1 dx (.own x)) x (.ins C dx []), P⟩ (ds.map S.v) (vs.map some) F1 (upd (upd H1 dx (.own x)) x (.ins C dx [])) := rs_args rr
    refine ⟨by rw [List.map_cons, List.length_cons, List.length_cons, r0.len], fun i s y h1 h2 => ?_, fun i j s t q hij h1 h2 o1 o2 h3 h4 => ?_⟩
    · cases i with
      | zero =>
        cases h1; cases h2
        exact ⟨x, rfl, ⟨nF, dx, [], upd_same, rfl, rfl⟩, rfl⟩
      | succ i => exact (show SlotOk K ⟨F1, upd (upd H1 dx (.own x)) x (.ins C dx []), P⟩ F1 _ (i + 1) y s by
          have z := r0.sl i s y h1 h2
          have hv : ∃ d, s = .v d := by
            have h1' : (ds.map S.v)[i]? = some s := h1
            rw [List.getElem?_map] at h1'
            cases q : ds[i]? with
            | none => rw [q] at h1'; cases h1'
            | some d => rw [q] at h1'; cases h1'; exact ⟨d, rfl⟩
          obtain ⟨d, rfl⟩ := hv
          exact z)
    · have only : ∀ {i s}, (S.oo true C [] [] :: ds.map S.v)[i]? = some s → s.owned = true → i = 0 := fun {i s} h o => by
        cases i with
        | zero => rfl
        | succ i =>
          have h1' : (ds.map S.v)[i]? = some s := h
          rw [List.getElem?_map] at h1'
          cases q : ds[i]? with
          | none => rw [q] at h1'; cases h1'
          | some d => rw [q] at h1'; cases h1'; cases o
      exact hij ((only h1 o1).trans (only h2 o2).symm)
  refine ⟨F1, P, _, _, _, hn, fun a o e => sH _ _ (wf1.fh _ _ e), (fun i a e => ?_), ra2, hn' _ _ _ q2, fun rv fin q3 v F' H' w fin' ok => ?_, fun er fin q3 F' H' w cls ddx xx => ?_⟩
  · by_cases z : i = 0
    · subst z; cases e; exact ⟨_, upd_same⟩
    · have : P i = none := if_neg z
      rw [this] at e; cases e
  · obtain ⟨rfl, ns, xs, h0, q4⟩ := q3
    obtain ⟨nF', dx', vs', hx', hl', rr'⟩ := fin' 0 _ x h0 rfl rfl
    have ex := ext_of_call w sH hP
    have n' : F' x = none := nF'
    have s2 : Same F' (upd F' x (.ins C dx' (ns.zip vs'))) := fun a o e => by rw [upd_ne (ne_of_none e n')]; exact e
    have ex2 : Ext F1 H1 (upd F' x (.ins C dx' (ns.zip vs'))) H' := ⟨ex.ff.trans s2, fun a o e => by
        by_cases z : a = x
        · subst z; rw [upd_same] at e; cases e; exact hx'
        · rw [upd_ne z] at e; exact ex.fh a o e, ex.hh, fun a o e => by
        by_cases z : a = x
        · subst z; exact .inr nx
        · rw [upd_ne z] at e; exact ex.new a o e⟩
    exact ⟨ok, k _ _ q4 _ _ H' (wf1.ext ex2) ex2.ff (r1.ext ex2) ⟨x, dx', vs', rfl, upd_same, hl', rr'.mono s2⟩⟩
  · have ex := ext_of_call w sH hP
    exact kx er fin q3 F' H' (wf1.ext ex) ex.ff (r1.ext ex) cls ddx xx
theorem tr_make {f : Fn} {dd : List D} {dvs : List V} {n : Nat} {u : Wa} {σ : L2.St} {H : Hp} {Q : VK} (hd : ∀ F, Reps K F dd dvs) (hf : ∀ as R Y, f as R Y → as.length = n) (hn' : ∀ as R Y, f as R Y → f as (fun r fin => r = .d .non ∧ R r fin) Y) (h : Tr K W (wMake C f dd u) σ H Q) :
    tMakeD C (spF K n f) dvs (WE W) (TrA K W u) σ H Q := by
  obtain ⟨b, δ, F, Po, Px, wf, r, q, k, kx⟩ := h
  refine ⟨b, δ, F, _, _, wf, r, q, fun as δ1 q1 vs F1 H1 wf1 s1 r1 ra => ?_, kx⟩
  intro x dx nx ndx nex
  obtain ⟨ds, hds, q2⟩ := q1
  exact make_core wf1 r1 ((reps_of ra hds).append (hd F1)) hf hn' q2 (fun d δ' q v F' H' w s => k d δ' q v F' H' w (s1.trans s)) (fun er fin q F' H' w s r cls dd x => kx er δ1 q cls dd F' H' w (s1.trans s) r x) x dx nx ndx nex
theorem x_make {u : Wa} (M : Mk X.K C f) (F : FnG X.prog X.w X.K X.mg X.base (L2.CX X.prog X.w) k f fd ps (spF X.K n ff)) (hr : RmG (k + 1) X.A) (hm : X.mg x = some (.ref C)) (hb : Binds X.K fd ps dvl) (hd : Vals dvs dvl) (hdd : ∀ F, Reps X.K F dd dvs)
    (tk : Takes X W) (hf : ∀ as R Y, ff as R Y → as.length = n) (hn' : ∀ as R Y, ff as R Y → ff as (fun r fin => r = .d .non ∧ R r fin) Y) (ha : PA X (e :: es) (TrA X.K W u)) (hg : Gl X x := by rfl) (hdb : (x == ("__debug__" : Str)) = false := by decide) (he : starEach (e :: es) X.env = (false, eval e X.env) :: starEach es X.env := by rfl)
    (hpl : (backTo pos (starEach es X.env)).any (·.1) = false := by rfl) : PE X (.Call (.Name x p) (e :: es) [] pos) (Tr X.K W (wMake C ff dd u)) :=
  pe_imp (pe_makeG M F hr hg hm hb hd (fun σ => passAt tk σ) ha hdb he hpl) fun _ _ _ => tr_make hdd hf hn'

/-! ### methods and properties of instances that are trees -/
def wMeth (C : Addr) (m : Str) (f : Fn) (dd : List D) (w : Wt) (u : Wa) : Wt := fun δ Q Y => w δ (fun d δ1 => ∃ ns xs, d = .obj C ns xs ∧ m ∉ ns ∧ u δ1 (fun as δ2 => ∃ ds, trees as = some ds ∧ f ((d :: (ds ++ dd)).map S.v) (fun r _ => Q (rvD r) δ2) (fun er _ => Y er δ2)) Y) Y
theorem lookup_zip_none {m : Str} : ∀ {ns : List Str} {vs : List V}, m ∉ ns → (ns.zip vs).lookup m = none
  | [], _, _ => rfl
  | _ :: _, [], _ => rfl
  | n :: ns, v :: vs, h => by
    have h1 : (m == n) = false := by
      cases q : m == n with
      | false => rfl
      | true => exact absurd (by rw [beq_iff_eq.mp q]; exact List.mem_cons_self) h
    show (match m == n with | true => some v | false => (ns.zip vs).lookup m) = none
    rw [h1]
    exact lookup_zip_none fun q => h (List.mem_cons_of_mem _ q)
theorem tr_meth {f : Fn} {dd : List D} {dvs : List V} {n : Nat} {w : Wt} {u : Wa} {σ : L2.St} {H : Hp} {Q : VK} (hd : ∀ F, Reps K F dd dvs) (hf : ∀ as R Y, f as R Y → as.length = n) (h : Tr K W (wMeth C m f dd w u) σ H Q) :
    tMethD C m (spF K n f) dvs (WE W) (Tr K W w) (TrA K W u) σ H Q := by
  obtain ⟨b, δ, F, Po, Px, wf, r, q, k, kx⟩ := h
  refine ⟨b, δ, F, _, _, wf, r, q, fun d δ1 q1 x F1 H1 wf1 s1 r1 rx => ?_, kx⟩
  obtain ⟨ns, xs, rfl, hm, q1⟩ := q1
  obtain ⟨a, dx, us, rfl, ha, hl, ru⟩ := id rx
  refine ⟨a, dx, _, rfl, wf1.fh _ _ ha, lookup_zip_none hm, ?_⟩
  refine ⟨b, δ1, F1, _, _, wf1, r1, q1, fun as δ2 q2 vs F2 H2 wf2 s2 r2 ra => ?_, fun er δ' hx => Xp.back s1 (kx er δ' hx)⟩
  obtain ⟨ds, hds, q3⟩ := q2
  have rr : Reps K F2 (.obj C ns xs :: (ds ++ dd)) (V.ref a :: (vs ++ dvs)) := Reps.cons (rx.mono s2) ((reps_of ra hds).append (hd F2))
  have hn : (V.ref a :: (vs ++ dvs)).length = n := by
    have := hf _ _ _ q3
    rw [List.length_map] at this
    rw [rr.length, this]
  refine sp_call wf2 r2 rr hn q3 (fun rv fin q3 v F' H' w ok => ?_) fun er fin q3 F' H' w s r' cls dd x => kx er δ2 q3 cls dd F' H' w ((s1.trans s2).trans s) r' x
  obtain ⟨F3, a1, a2, a3, a4, _⟩ := rv_tree wf2 r2 w (Same.refl _) (fun i x z => by cases z) ok
  exact k _ _ q3 v F3 H' a1 ((s1.trans s2).trans a2) a3 a4
theorem x_meth {pl : Sem Bool} {w : Wt} {u : Wa} (ho : PE X o (Tr X.K W w)) (c : Cls X.K C) (hm : Meth X.K C m f) (F : FnG X.prog X.w X.K X.mg X.base (L2.CX X.prog X.w) k f fd ps (spF X.K n ff)) (hr : RmG k X.A) (hb : Binds X.K fd ps dvl) (hd : Vals dvs dvl) (hdd : ∀ F, Reps X.K F dd dvs)
    (tk : Takes X W) (hf : ∀ as R Y, ff as R Y → as.length = n) (ha : PA X (e :: es) (TrA X.K W u)) (hst : starEach (e :: es) X.env = (false, eval e X.env) :: starEach es X.env := by rfl) (hpl : (backTo pos (starEach es X.env)).any (·.1) = false := by rfl)
    (ht : eval (.Call (.Attribute o m apos) (e :: es) [] pos) X.env = (do
      let ov ← eval o X.env
      standAt apos.atName
      let (f, first) ← holding [ov] (getMethod ov m pl)
      callWith pos f first (backTo pos (starEach (e :: es) X.env)) (backToKw pos (keywordEach [] X.env))) := by rfl) : PE X (.Call (.Attribute o m apos) (e :: es) [] pos) (Tr X.K W (wMeth C m ff dd w u)) :=
  pe_imp (pe_methG ho c hm F hr hb hd (fun σ => passAt tk σ) ha hst hpl ht) fun _ _ _ => tr_meth hdd hf
theorem x_meth0 {pl : Sem Bool} {w : Wt} (ho : PE X o (Tr X.K W w)) (c : Cls X.K C) (hm : Meth X.K C m f) (F : FnG X.prog X.w X.K X.mg X.base (L2.CX X.prog X.w) k f fd ps (spF X.K n ff)) (hr : RmG k X.A) (hb : Binds X.K fd ps dvl) (hd : Vals dvs dvl) (hdd : ∀ F, Reps X.K F dd dvs)
    (tk : Takes X W) (hf : ∀ as R Y, ff as R Y → as.length = n)
    (ht : eval (.Call (.Attribute o m apos) [] [] pos) X.env = (do
      let ov ← eval o X.env
      standAt apos.atName
      let (f, first) ← holding [ov] (getMethod ov m pl)
      callWith pos f first (backTo pos (starEach [] X.env)) (backToKw pos (keywordEach [] X.env))) := by rfl) : PE X (.Call (.Attribute o m apos) [] [] pos) (Tr X.K W (wMeth C m ff dd w wNil)) :=
  pe_imp (pe_methG0 ho c hm F hr hb hd (fun σ => passAt tk σ) ht) fun σ H Q h => by
    have z := tr_meth hdd hf h
    obtain ⟨b, δ, F, Po, Px, wf, r, q, k, kx⟩ := z
    refine ⟨b, δ, F, Po, Px, wf, r, q, fun d δ1 q1 x F1 H1 wf1 s1 r1 rx => ?_, kx⟩
    obtain ⟨a, dx, fs, h1, h2, h3, h4⟩ := k d δ1 q1 x F1 H1 wf1 s1 r1 rx
    obtain ⟨b', δ', F', Po', Px', wf', r', q', k', kx'⟩ := h4
    exact ⟨a, dx, fs, h1, h2, h3, k' _ _ q' _ F' H1 wf' (Same.refl _) r' .nil⟩
/-- a property -/
def wProp (C : Addr) (f : Fn) (w : Wt) : Wt := fun δ Q Y => w δ (fun d δ1 => ∃ ns xs, d = .obj C ns xs ∧ f [.v d] (fun r _ => Q (rvD r) δ1) (fun _ _ => False)) Y
theorem tr_prop {f : Fn} {n : Nat} {w : Wt} {σ : L2.St} {H : Hp} {Q : VK} (hf : ∀ as R Y, f as R Y → as.length = n) (h : Tr K W (wProp C f w) σ H Q) : tProp C (spF K n f) [] E0 (Tr K W w) σ H Q := by
  obtain ⟨b, δ, F, Po, Px, wf, r, q, k, kx⟩ := h
  refine ⟨b, δ, F, _, _, wf, r, q, fun d δ1 q1 x F1 H1 wf1 s1 r1 rx => ?_, kx⟩
  obtain ⟨ns, xs, rfl, q1⟩ := q1
  obtain ⟨a, dx, us, rfl, ha, hl, ru⟩ := id rx
  refine ⟨a, dx, _, rfl, wf1.fh _ _ ha, ?_⟩
  refine ⟨F1, fun _ => none, _, _, _, hf _ _ _ q1, wf1.fh, (fun _ _ z => by cases z), rs_args (ds := [.obj C ns xs]) (Reps.cons rx rfl), q1, fun rv fin q3 v F' H' w _ ok => ?_, fun er fin z => z.elim⟩
  obtain ⟨F3, a1, a2, a3, a4, _⟩ := rv_tree wf1 r1 w (Same.refl _) (fun i x z => by cases z) ok
  exact k _ _ q3 v F3 H' a1 (s1.trans a2) a3 a4
theorem x_prop {w : Wt} (ho : PE X e (Tr X.K W w)) (c : Cls X.K C) (hp : PropOf X.K C m pp g) (F : FnG X.prog X.w X.K X.mg X.base (L2.CX X.prog X.w) k g fd ps (spF X.K n ff)) (hr : RmG (k + 1) X.A) (hb : Binds X.K fd ps []) (hf : ∀ as R Y, ff as R Y → as.length = n)
    (hab : attributeBase e m X.env (eval e X.env) = eval e X.env := by rfl) : PE X (.Attribute e m pos) (Tr X.K W (wProp C ff w)) :=
  pe_imp (pe_propG ho c hp F hr hb .nil passL hab) fun _ _ _ => tr_prop hf
end
end L3

set_option Elab.async false
set_option linter.all false
set_option maxRecDepth 100000
set_option maxHeartbeats 1000000
namespace L3
open PySem L2
section
variable {X : Cx} {K : PySem.W.Frag} {W : WX} {e a b c o : Expr} {es : List Expr} {t : TE} {pos : Pos}
variable {k n : Nat} {f C g pp : Addr} {fd : FuncData} {ps : List Str} {ff : Fn} {dvs : List V} {dvl : List Value} {dd : List D} {x m : Str} {p apos : Pos}

/-! ### fields -/
theorem look_zip {F : Hp} {m : Str} : ∀ {ns : List Str} {xs : List D} {vs : List V} {d : D}, Reps K F xs vs → (ns.zip xs).lookup m = some d → ∃ v, (ns.zip vs).lookup m = some v ∧ Rep K F d v
  | [], _, _, _, _, h => by cases h
  | _ :: _, [], _, _, _, h => by cases h
  | n :: ns, x :: xs, _, d, r, h => by
    obtain ⟨v, vs, rfl, r1, r2⟩ := r
    show ∃ w, (match m == n with | true => some v | false => (ns.zip vs).lookup m) = some w ∧ _
    have h' : (match m == n with | true => some x | false => (ns.zip xs).lookup m) = some d := h
    cases q : m == n with
    | true =>
      rw [q] at h'
      cases h'
      exact ⟨v, rfl, r1⟩
    | false =>
      rw [q] at h'
      exact look_zip r2 h'
def wFld (C : Addr) (m : Str) (w : Wt) : Wt := fun δ Q Y => w δ (fun d δ1 => ∃ ns xs z, d = .obj C ns xs ∧ (ns.zip xs).lookup m = some z ∧ Q z δ1) Y
theorem x_fld {w : Wt} (ho : PE X e (Tr X.K W w)) (c : Cls X.K C) (na : NoAttr X.K C m) (hb : attributeBase e m X.env (eval e X.env) = eval e X.env := by rfl) : PE X (.Attribute e m pos) (Tr X.K W (wFld C m w)) := pe_imp (pe_fld ho hb) fun σ H Q h => by
  obtain ⟨b, δ, F, Po, Px, wf, r, q, k, kx⟩ := h
  refine ⟨b, δ, F, _, _, wf, r, q, fun d δ1 q1 x F1 H1 wf1 s1 r1 rx => ?_, kx⟩
  obtain ⟨ns, xs, z, rfl, hz, q2⟩ := q1
  obtain ⟨a, dx, vs, rfl, ha, hl, rr⟩ := rx
  obtain ⟨v, hv, rv⟩ := look_zip rr hz
  exact ⟨a, C, dx, _, v, rfl, wf1.fh _ _ ha, c, na, hv, k z δ1 q2 v F1 H1 wf1 s1 r1 rv⟩
/-- a field of the instance that slot i owns -/
def wFldO (i : Nat) (C : Addr) (m : Str) : Wt := fun δ Q _ => ∃ k ns xs z, δ[i]? = some (.oo k C ns xs) ∧ (ns.zip xs).lookup m = some z ∧ Q z δ
theorem x_fldO (i : Nat) {x : Str} (c : Cls X.K C) (na : NoAttr X.K C m) (hN : X.N[i]? = some x := by rfl) (hv : Vis X.env.scope x := by first | exact Or.inl rfl | exact Or.inr (Or.inl rfl) | exact Or.inr (Or.inr rfl)) (hd : (x == ("__debug__" : Str)) = false := by decide)
    (hcd : (x == ("__classdict__" : Str)) = false := by decide) (hb : attributeBase (.Name x p) m X.env (eval (.Name x p) X.env) = eval (.Name x p) X.env := by rfl) : PE X (.Attribute (.Name x p) m pos) (Tr X.K W (wFldO i C m)) := pe_imp (pe_fld (pe_var hN hv hd hcd) hb) fun σ H Q h => by
  obtain ⟨b, δ, F, Po, Px, wf, r, ⟨k0, ns, xs, z, hi, hz, q⟩, k, kx⟩ := h
  obtain ⟨q0, hq, ⟨_, dx, vs, ha, hl, rr⟩, _⟩ := r.own hi rfl
  obtain ⟨v, hv, rv⟩ := look_zip rr hz
  exact ⟨_, hq, q0, C, dx, _, v, rfl, ha, c, na, hv, k z δ q v F H wf (Same.refl _) r rv⟩
/-- what slot i owns is changed -/
theorem own_upd {b : B} {δ : List S} {σ : L2.St} {F H : Hp} {i : Nat} {s s' : S} {p : Addr} {o o' : HO} (wf : Wf b F H) (r : Rs K b δ σ F H) (hi : δ[i]? = some s) (hs : s.owned = true) (hs' : s'.owned = true) (hk : s'.inp = s.inp) (hp : σ[i]? = some (some (.ref p))) (ho : H p = some o)
    (own : Own K F (upd H p o') s' p) : Wf b F (upd H p o') ∧ Rs K b (δ.set i s') σ F (upd H p o') := by
  obtain ⟨q, hq, how, hb⟩ := r.own hi hs
  have e : q = p := by
    rw [hp] at hq; cases hq; rfl
  subst e
  have nF := how.1
  have lt : i < δ.length := (List.getElem?_eq_some_iff.mp hi).1
  refine ⟨⟨fun a u e => ?_, wf.ff, fun a u hn e => ?_, wf.new, fun a e => ?_, wf.pn⟩, ?_⟩
  · rw [upd_ne (ne_of_none e nF)]; exact wf.fh _ _ e
  · have ne : a ≠ q := fun z => by
      subst z
      cases hkk : s.inp with
      | true => rw [hkk, if_pos rfl] at hb; exact hn i hb
      | false => rw [hkk, if_neg Bool.false_ne_true] at hb; rw [e] at hb; cases hb
    rw [upd_ne ne]; exact wf.keep a u hn e
  · by_cases z : a = q
    · subst z; rw [upd_same] at e; cases e
    · rw [upd_ne z] at e; exact wf.live a e
  · have other : ∀ {j t y}, j ≠ i → δ[j]? = some t → σ[j]? = some y → SlotOk K b F H j y t → SlotOk K b F (upd H q o') j y t := fun {j t y} hj h1 h2 z => by
      have ne : t.owned = true → ∀ u, y = some (.ref u) → u ≠ q := fun o u e z => by
        subst z; subst e
        exact r.sep i j s t u (Ne.symm hj) hi h1 hs o hp h2
      cases t with
      | no => trivial
      | v d => exact z
      | ex _ _ _ _ _ => exact z
      | ol k xs =>
        obtain ⟨u, a1, ⟨a2, vs, a3, a4⟩, a5⟩ := z
        exact ⟨u, a1, ⟨a2, vs, by rw [upd_ne (ne rfl u a1)]; exact a3, a4⟩, a5⟩
      | oo k c ns xs =>
        obtain ⟨u, a1, ⟨a2, dx, vs, a3, a6, a4⟩, a5⟩ := z
        exact ⟨u, a1, ⟨a2, dx, vs, by rw [upd_ne (ne rfl u a1)]; exact a3, a6, a4⟩, a5⟩
    refine ⟨by rw [List.length_set]; exact r.len, fun j t y h1 h2 => ?_, fun j l t u pp hjl h1 h2 o1 o2 h3 h4 => ?_⟩
    · by_cases hj : i = j
      · subst hj
        rw [List.getElem?_set_self lt] at h1
        cases h1
        have hy : y = some (.ref q) := by rw [hp] at h2; cases h2; rfl
        subst hy
        have hb' : if s'.inp = true then b.P i = some q else b.H0 q = none := by rw [hk]; exact hb
        cases s' with
        | no => cases hs'
        | v d => cases hs'
        | ex _ _ _ _ _ => cases hs'
        | ol k xs => exact ⟨q, rfl, own, hb'⟩
        | oo k c ns xs => exact ⟨q, rfl, own, hb'⟩
      · rw [List.getElem?_set_ne hj] at h1
        exact other (Ne.symm hj) h1 h2 (r.sl j t y h1 h2)
    · have back : ∀ {j : Nat} {t : S}, (δ.set i s')[j]? = some t → t.owned = true → ∃ t' : S, δ[j]? = some t' ∧ t'.owned = true := fun {j t} h o => by
        by_cases hj : i = j
        · subst hj; exact ⟨s, hi, hs⟩
        · rw [List.getElem?_set_ne hj] at h; exact ⟨t, h, o⟩
      obtain ⟨t', h1', o1'⟩ := back h1 o1
      obtain ⟨u', h2', o2'⟩ := back h2 o2
      exact r.sep j l t' u' pp hjl h1' h2' o1' o2' h3 h4
/-- a field of the instance that slot i owns is stored -/
def putD (m : Str) (d : D) : List Str → List D → List Str × List D
  | n :: ns, x :: xs => if n = m then (n :: ns, d :: xs) else ((n :: (putD m d ns xs).1), (x :: (putD m d ns xs).2))
  | _, _ => ([m], [d])
theorem putD_ok {F : Hp} {m : Str} {d : D} {v : V} (rv : Rep K F d v) : ∀ {ns : List Str} {xs : List D} {vs : List V}, Reps K F xs vs → ns.length = vs.length → ∃ us, putF m v (ns.zip vs) = (putD m d ns xs).1.zip us ∧ (putD m d ns xs).1.length = us.length ∧ Reps K F (putD m d ns xs).2 us
  | [], xs, vs, r, hl => by
    have : vs = [] := List.length_eq_zero_iff.mp hl.symm
    subst this
    cases xs with
    | nil => exact ⟨[v], rfl, rfl, Reps.cons rv rfl⟩
    | cons x xs => obtain ⟨_, _, h, _⟩ := r; cases h
  | n :: ns, [], vs, r, hl => by
    rw [show vs = [] from r] at hl
    cases hl
  | n :: ns, x :: xs, _, r, hl => by
    obtain ⟨w, vs, rfl, r1, r2⟩ := r
    have hl' : ns.length = vs.length := Nat.succ.inj hl
    obtain ⟨us, h1, h2, h3⟩ := putD_ok (m := m) rv r2 hl'
    show ∃ us, (if n = m then (n, v) :: ns.zip vs else (n, w) :: putF m v (ns.zip vs)) = _ ∧ _
    by_cases q : n = m
    · unfold putD
      rw [if_pos q, if_pos q]
      exact ⟨v :: vs, rfl, by rw [List.length_cons, List.length_cons, hl'], Reps.cons rv r2⟩
    · unfold putD
      rw [if_neg q, if_neg q, h1]
      exact ⟨w :: us, rfl, by show _ + 1 = _ + 1; rw [h2], Reps.cons r1 h3⟩
def wStF (i : Nat) (C : Addr) (m : Str) (w : Wt) : Ws := fun δ E => w δ (fun d δ1 => ∃ k ns xs, δ1[i]? = some (.oo k C ns xs) ∧ ns.length < 1000 ∧ E.nx (δ1.set i (.oo k C (putD m d ns xs).1 (putD m d ns xs).2))) E.xx
theorem s_fld (i : Nat) {x : Str} {w : Wt} {p2 : Pos} (c : Cls X.K C) (na : NoAttr X.K C m) (he : PE X e (Tr X.K W w)) (hN : X.N[i]? = some x := by rfl) (hv : Vis X.env.scope x := by first | exact Or.inl rfl | exact Or.inr (Or.inl rfl) | exact Or.inr (Or.inr rfl)) (hd : (x == ("__debug__" : Str)) = false := by decide)
    (hcd : (x == ("__classdict__" : Str)) = false := by decide) (hs : swapsWith e (some (.Attribute (.Name x p) m p2)) pos.line X.env = pure false := by rfl) : PS X (.Assign [.Attribute (.Name x p) m p2] e pos) (TrS X.K W (wStF i C m w)) := ps_imp (ps_fld (pe_var hN hv hd hcd) he hs) fun Dn σ H h => by
  obtain ⟨b, δ, F, E, wf, r, q, k1, k2, k3, k4, k5⟩ := h
  refine ⟨b, δ, F, _, _, wf, r, q, fun d δ1 q1 v F1 H1 wf1 s1 r1 rx => ?_, k5_of k5⟩
  obtain ⟨k0, ns, xs, hi, hl, q2⟩ := q1
  obtain ⟨q0, hq, ⟨nF, dx, vs, ha, hlv, rr⟩, _⟩ := r1.own hi rfl
  obtain ⟨us, e1, e2, e3⟩ := putD_ok (m := m) rx rr hlv
  refine ⟨_, hq, q0, C, dx, _, rfl, ha, c, na, ?_, ?_⟩
  · rw [List.length_zip]
    exact Nat.lt_of_le_of_lt (Nat.min_le_left _ _) hl
  · obtain ⟨w1, w2⟩ := own_upd (s' := .oo k0 C (putD m d ns xs).1 (putD m d ns xs).2) (o' := .ins C dx (putF m v (ns.zip vs))) wf1 r1 hi rfl rfl rfl hq ha ⟨nF, dx, us, by rw [upd_same, e1], e2, e3⟩
    exact k1 _ q2 σ F1 _ w1 s1 w2

/-! ### subscripts -/
theorem reps_at {F : Hp} {xs : List D} {vs : List V} {i : Int} {z : D} (r : Reps K F xs vs) (h : atI xs i = some z) : ∃ v, atI vs i = some v ∧ Rep K F z v := by
  unfold atI at h ⊢
  rw [r.length]
  cases q : ixN xs.length i with
  | none => rw [q] at h; cases h
  | some j =>
    rw [q] at h
    exact r.get h
def itemsOf : D → Option (List D)
  | .lst xs => some xs
  | .tup xs => some xs
  | _ => none
def oIx : O2 := fun d e P => ∃ xs i z, itemsOf d = some xs ∧ e = .int i ∧ atI xs i = some z ∧ P z
theorem x_ix {wa wb : Wt} (ha : PE X a (Tr X.K W wa)) (hb : PE X b (Tr X.K W wb)) (hs : PlainIx b) : PE X (.Subscript a b pos) (Tr X.K W (wOp oIx wa wb)) := pe_imp (pe_ix (r := fun x y H Q => Op2 X.K oIx x y H Q) (fun value slice pins s σ H x y v u Q I rx ry h hsub => ix_seq value slice pins s σ H x y v u Q I rx ry (by
  obtain ⟨F, d, e, P, sF, r1, r2, ⟨xs, i, z, hx, rfl, hz, q⟩, k⟩ := h
  cases d with
  | lst ys =>
    cases hx
    obtain ⟨l, vs, rfl, h1, h2⟩ := r1
    obtain ⟨w, hw, rw'⟩ := reps_at h2 hz
    exact .inl ⟨l, vs, i, w, rfl, r2, Same.seq sF h1, hw, k z q w F H (Ext.refl sF) rw'⟩
  | tup ys =>
    cases hx
    obtain ⟨l, vs, rfl, h1, h2⟩ := r1
    obtain ⟨w, hw, rw'⟩ := reps_at h2 hz
    exact .inr (.inl ⟨l, vs, i, w, rfl, r2, seqT sF h1, hw, k z q w F H (Ext.refl sF) rw'⟩)
  | _ => cases hx) hsub) ha hb hs) fun _ _ _ => tr_op
/-- an item of the list that slot i owns -/
def wIxO (i : Nat) (w : Wt) : Wt := fun δ Q Y => (∃ s : S, δ[i]? = some s ∧ s.owned = true) ∧ w δ (fun e δ1 => ∃ k xs j z, e = .int j ∧ δ1[i]? = some (.ol k xs) ∧ atI xs j = some z ∧ Q z δ1) Y
theorem x_ixO (i : Nat) {x : Str} {w : Wt} (hb : PE X b (Tr X.K W w)) (hs : PlainIx b) (hN : X.N[i]? = some x := by rfl) (hv : Vis X.env.scope x := by first | exact Or.inl rfl | exact Or.inr (Or.inl rfl) | exact Or.inr (Or.inr rfl)) (hd : (x == ("__debug__" : Str)) = false := by decide)
    (hcd : (x == ("__classdict__" : Str)) = false := by decide) : PE X (.Subscript (.Name x p) b pos) (Tr X.K W (wIxO i w)) := pe_imp (pe_ix ix_list (pe_var hN hv hd hcd) hb hs) fun σ H Q h => by
  obtain ⟨b, δ, F, Po, Px, wf, r, ⟨⟨s, hs, ho⟩, q⟩, k, kx⟩ := h
  obtain ⟨q0, hq, _, _⟩ := r.own hs ho
  refine ⟨_, hq, b, δ, F, _, _, wf, r, q, fun d δ1 q1 y F1 H1 wf1 s1 r1 ry => ?_, kx⟩
  obtain ⟨k0, xs, j, z, rfl, hi, hz, q2⟩ := q1
  obtain ⟨q3, hq3, ⟨_, vs, ha, rr⟩, _⟩ := r1.own hi rfl
  rw [hq] at hq3
  cases hq3
  obtain ⟨v, hv, rv⟩ := reps_at rr hz
  exact ⟨q0, vs, j, v, rfl, ry, .inl (.inl ha), hv, k z δ1 q2 v F1 H1 wf1 s1 r1 rv⟩
/-- xs[j] = e, xs the list that slot i owns -/
def wStO (i : Nat) (u w : Wt) : Ws := fun δ E => u δ (fun d δ1 => (∃ s : S, δ1[i]? = some s ∧ s.owned = true) ∧ w δ1 (fun e δ2 => ∃ k xs j l, e = .int j ∧ δ2[i]? = some (.ol k xs) ∧ ixN xs.length j = some l ∧ E.nx (δ2.set i (.ol k (xs.set l d)))) E.xx) E.xx
theorem s_sub (i : Nat) {x : Str} {u w : Wt} {p2 : Pos} (he : PE X e (Tr X.K W u)) (hb : PE X b (Tr X.K W w))
    (ha : ∀ v, assign (.Subscript (.Name x p) b p2) X.env v = (do
      let ov ← holding [v] (eval (.Name x p) X.env)
      let iv ← holding [v, ov] (eval b X.env)
      standAt p2
      holding [v, ov, iv] (setItem ov iv v)
      release [v, ov, iv] []) := by intro _; rfl)
    (hN : X.N[i]? = some x := by rfl) (hv : Vis X.env.scope x := by first | exact Or.inl rfl | exact Or.inr (Or.inl rfl) | exact Or.inr (Or.inr rfl)) (hd : (x == ("__debug__" : Str)) = false := by decide)
    (hcd : (x == ("__classdict__" : Str)) = false := by decide) (hs : swapsWithSole [.Subscript (.Name x p) b p2] e pos.line X.env = pure false := by rfl) (hw : swappedStores [.Subscript (.Name x p) b p2] e X.env = pure none := by rfl)
    (h1 : (assignEach [.Subscript (.Name x p) b p2] X.env).map (·.2) = [assign (.Subscript (.Name x p) b p2) X.env] := by rfl) : PS X (.Assign [.Subscript (.Name x p) b p2] e pos) (TrS X.K W (wStO i u w)) := ps_imp (ps_asg he (pg_sub (pe_var hN hv hd hcd) hb set_list ha) hs hw h1) fun Dn σ H h => by
  obtain ⟨b, δ, F, E, wf, r, q, k1, k2, k3, k4, k5⟩ := h
  refine ⟨b, δ, F, _, _, wf, r, q, fun d δ1 q1 v F1 H1 wf1 s1 r1 rv => ?_, k5_of k5⟩
  obtain ⟨⟨s, hs, ho⟩, q1⟩ := q1
  obtain ⟨q0, hq, _, _⟩ := r1.own hs ho
  refine ⟨_, hq, b, δ1, F1, _, _, wf1, r1, q1, fun e δ2 q2 y F2 H2 wf2 s2 r2 ry => ?_, fun er δ' hx => Xp.back s1 (k5_of k5 er δ' hx)⟩
  obtain ⟨k0, xs, j, l, rfl, hi, hl, q3⟩ := q2
  obtain ⟨q4, hq4, ⟨nF, vs, ha, rr⟩, _⟩ := r2.own hi rfl
  rw [hq] at hq4
  cases hq4
  refine ⟨q0, vs, j, l, rfl, ry, ha, by rw [rr.length]; exact hl, ?_⟩
  obtain ⟨w1, w2⟩ := own_upd (s' := .ol k0 (xs.set l d)) (o' := .lst (vs.set l v)) wf2 r2 hi rfl rfl rfl hq ha ⟨nF, _, upd_same, rr.set (rv.mono s2)⟩
  exact k1 _ q3 σ F2 _ w1 (s1.trans s2) w2
end
end L3

set_option Elab.async false
set_option linter.all false
set_option maxRecDepth 100000
set_option maxHeartbeats 1000000
namespace L3
open PySem L2
section
variable {X : Cx} {K : PySem.W.Frag} {W : WX} {e a b c o : Expr} {es : List Expr} {t : TE} {pos : Pos}
variable {k n : Nat} {f C g pp : Addr} {fd : FuncData} {ps : List Str} {ff : Fn} {dvs : List V} {dvl : List Value} {dd : List D} {x m : Str} {p apos : Pos}

/-! ### the operators of an own class -/
/-- one value of a call of an operator's def -/
def oOwn (C : Addr) (f : Fn) (okR : D → Prop) : O2 := fun d e P => (∃ ns xs, d = .obj C ns xs) ∧ okR e ∧ f [.v d, .v e] (fun r _ => P (rvD r)) (fun _ _ => False)
theorem notNI {v : V} {u : Value} {Q : Value → Shared → Prop} {s : Shared} (r : RelV v u) (h : Q u s) : PySem.W.CmpBack Q u s := by
  cases v with
  | non => cases (show u = Value.none from r); exact h
  | bl b => cases (show u = Value.bool b from r); exact h
  | int i => obtain ⟨t, rfl⟩ := (show ∃ t, u = Value.int i t from r); exact h
  | str i => obtain ⟨t, rfl⟩ := (show ∃ t, u = Value.str i t from r); exact h
  | byt i => obtain ⟨t, rfl⟩ := (show ∃ t, u = Value.bytes i t from r); exact h
  | flt i => obtain ⟨t, rfl⟩ := (show ∃ t, u = Value.float i t from r); exact h
  | ref a => cases (show u = Value.ref a from r); exact h
  | ty n => cases (show u = Value.type n from r); exact h
theorem Env0.units {P : Program} {w : World} {K : PySem.W.Frag} {mg : Str → Option Value} {base : Heap} {A A' : Around} {outer : List Env} {s : Shared} {H : Hp} (e : Env0 P w K mg base A outer s H) (h : A'.frames = A.frames) : Env0 P w K mg base A' outer s H := ⟨h.trans e.frames, e.mod, e.bs, e.bsz, e.funs, e.frf, e.hok, e.bare⟩
/-- the call of an operator's def, its two trees at hand -/
theorem run_own {pins : List (Addr × Obj)} {σ : L2.St} {H F : Hp} {s : Shared} {d1 d2 : D} {x y : V} {u v : Value} {P : D → Prop} {QQ : Value → Shared → Prop} {A : Around} {E : Value → Shared → Prop} (Fk : FnG X.prog X.w X.K X.mg X.base (L2.CX X.prog X.w) k f fd ps (spF X.K 2 ff)) (hr : RmG k A) (hA : A.frames = X.A.frames) (hb : Binds X.K fd ps [])
    (I : Inv X pins σ H s) (sF : Same F H) (r1 : Rep X.K F d1 x) (r2 : Rep X.K F d2 y) (rx : RelV x u) (ry : RelV y v) (q : ff [.v d1, .v d2] (fun r _ => P (rvD r)) (fun _ _ => False)) (hl : ∀ as R Y, ff as R Y → as.length = 2)
    (kk : ∀ z, P z → ∀ w (u : Value) F' H' s', Inv X pins σ H' s' → RelV w u → Ext F H F' H' → Rep X.K F' z w → QQ u s') : wpAny (model X.prog X.w) A (call (.ref f) [u, v]) QQ E s := by
  have rr : Reps X.K F [d1, d2] [x, y] := Reps.cons r1 (Reps.cons r2 rfl)
  have hsp : spF X.K 2 ff [x, y] H (fun w H' => ∃ z F', P z ∧ Ext F H F' H' ∧ Rep X.K F' z w) E0 :=
    ⟨F, fun _ => none, _, _, _, rfl, sF, (fun _ _ z => by cases z), rs_args rr, q, fun rv fin h w F' H' wf _ ok => by
      have ex := ext_of_call wf (Same.refl _) fun i x z => by cases z
      cases rv with
      | d d => exact ⟨d, F', h, ex, ok⟩
      | l xs =>
        obtain ⟨p, rfl, ⟨nF, vs, hp, rr'⟩, h0⟩ := ok
        have s2 : Same F' (upd F' p (.lst vs)) := fun a o e => by rw [upd_ne (ne_of_none e nF)]; exact e
        refine ⟨.lst xs, upd F' p (.lst vs), h, ⟨ex.ff.trans s2, fun a o e => ?_, ex.hh, fun a o e => ?_⟩, p, vs, rfl, .inl (.inl upd_same), rr'.mono s2⟩
        · by_cases z : a = p
          · subst z; rw [upd_same] at e; cases e; exact hp
          · rw [upd_ne z] at e; exact ex.fh a o e
        · by_cases z : a = p
          · subst z; exact .inr h0
          · rw [upd_ne z] at e; exact ex.new a o e, fun er fin z => z.elim⟩
  have hlen := Fk.len _ _ _ _ hsp
  have b := hb s [u, v] I.kIn (by simpa using hlen)
  rw [List.append_nil] at b
  refine wpAny_call (codeAny_mono (Fk.run A X.stack s H ⟨[u, v], []⟩ [u, v] [x, y] _ E0 hr (Env0.units I.env0 hA) b (.cons rx (.cons ry .nil)) hsp) fun r s' hq => ?_)
  cases r with
  | error e =>
    have z : L2.CX X.prog X.w X.stack H s E0 e s' := hq
    obtain ⟨_, _, _, _, _, _, _, _, _, _, _, _, z⟩ := z
    exact z.elim
  | ok fl =>
    cases fl with
    | ret w =>
      obtain ⟨z, H', I', rz, y, F', hP, ex, rep⟩ := I.after hq
      exact kk y hP z w F' H' s' I' rz ex rep
    | next => exact False.elim hq
    | brk => exact False.elim hq
    | cont => exact False.elim hq
/-- what the written part says of an operator's def -/
structure OpIn (K : PySem.W.Frag) (C f : Addr) (nm : String) : Prop where
  sf : PySem.W.selfFirst K C = true
  at_ : PySem.W.findIn K (.ref C) (PySem.dunder nm) = some (some (.ref f))
  fn : PySem.W.isFn K (.ref f) = true
  rf : PySem.W.findIn K (.ref C) (dunderR nm) = some none
  i1 : ∃ fo, PySem.W.findIn K (.type "int") (PySem.dunder nm) = some fo
  i2 : ∃ ro, PySem.W.findIn K (.type "int") (dunderR nm) = some ro
  sub : PySem.W.subIn K (.type "int") (.ref C) = some false
def okBin (C : Addr) (e : D) : Prop := (∃ n, e = .int n) ∨ ∃ ns xs, e = .obj C ns xs
theorem o_own {op : Operator} {nm : String} (hop : op.info.2 = nm) (O : OpIn X.K C f nm) (Fk : FnG X.prog X.w X.K X.mg X.base (L2.CX X.prog X.w) k f fd ps (spF X.K 2 ff)) (hr : RmG k X.A) (hb : Binds X.K fd ps []) (hl : ∀ as R Y, ff as R Y → as.length = 2) :
    OpR X (binaryOp op) (Op2 X.K (oOwn C ff (okBin C))) := by
  subst hop
  intro pins s σ H x y u v Q I rx ry h
  obtain ⟨F, d, e, P, sF, r1, r2, ⟨⟨ns, xs, rfl⟩, oke, q⟩, kk⟩ := h
  obtain ⟨a, dx, vs, rfl, ha, hlv, rr⟩ := id r1
  cases (show u = Value.ref a from rx)
  obtain ⟨mA, J, _⟩ := ins_get I.hok (sF _ _ ha)
  obtain ⟨od, J, _⟩ := J.look
  obtain ⟨mm, hF⟩ := I.fr
  have go := run_own (A := X.A) (E := X.xe) (QQ := PySem.W.CmpBack (EP X pins σ Q)) Fk hr rfl hb I sF r1 r2 (u := .ref a) rfl ry q hl fun z hz w u F' H' s' I' rw' ex rep => notNI rw' ⟨w, H', I', rw', kk z hz w F' H' ex rep⟩
  rcases oke with ⟨n, rfl⟩ | ⟨ns', xs', rfl⟩
  · obtain ⟨t, rfl⟩ := (show ∃ t, v = Value.int n t from by
      have : y = .int n := r2
      subst this
      exact ry)
    obtain ⟨fo, h1⟩ := O.i1
    obtain ⟨ro, h2⟩ := O.i2
    exact PySem.W.ksp_binT hF I.ok.mod.kin J rfl O.sf O.at_ O.fn O.rf (.inl rfl) h1 h2 O.sub go
  · obtain ⟨a', dx', vs', rfl, ha', _, _⟩ := id r2
    cases (show v = Value.ref a' from ry)
    obtain ⟨mB, J', _⟩ := ins_get I.hok (sF _ _ ha')
    obtain ⟨od', J', _⟩ := J'.look
    exact PySem.W.binop_K hF I.ok.mod.kin J J'.type O.sf O.at_ O.fn go
end
end L3

set_option Elab.async false
set_option linter.all false
set_option maxRecDepth 100000
set_option maxHeartbeats 1000000
namespace PySem.W
open PySem PySem.Calls PyProof.Rows
section
variable {prog : Program} {w : World} {A : Around} {E : Value → Shared → Prop} {s : Shared} {K : Frag} {x C L f : Addr} {h₀ : Heap} {m : Str → Option Value} {ox : Obj} {od : Option Obj} {b tb : Value}
/-- x != b by the class's own __eq__ -/
theorem l3_ne {Q : Value → Shared → Prop} (hu : A.units + 1 < cLine) (F : Fr h₀ L s.heap m) (X₀ : K.In h₀) (I : InstAt s.heap x ox C od) (hb : Looks (model prog w) s.heap (typeOf b) tb) (hn : notFirst K C tb = true)
    (h0 : findIn K (.ref C) "__ne__" = some (some (.builtin "object.__ne__"))) (ho : subIn K (.ref C) (.type "object") = some true) (hs : findIn K (.ref C) "__eq__" = some (some (.ref f))) (hf : isFn K (.ref f) = true)
    (h : ∀ E', wpAny (model prog w) A.in1 (call (.ref f) [.ref x, b]) (fun v s' => ∃ k, v = .bool k ∧ Q (.bool (!k)) s') E' s) : wpAny (model prog w) A (richCompare .NotEq (.ref x) b) Q E s := by
  have X := X₀.keeps F.keep
  have sub : Looks (model prog w) s.heap (isInstance (.ref x) (.type "object")) true := I.type.andThen (looks_subIn X ho)
  have bod : ∀ (R : Fin → Shared → Prop) E', (∀ k s', Q (.bool k) s' → R (.done (.ret (.bool k))) s') → wpAny (model prog w) A.in1 (Builtin.«object.__ne__» ⟨[.ref x, b], []⟩) R E' s := fun R E' hR => by
    unfold Builtin.«object.__ne__»
    refine wpAny_bind (wpAny_pure ?_)
    refine wpAny_bind (wpAny_cRoomFor (by show A.units + 1 < cLine; exact hu) ?_)
    refine wpAny_bind (ifBound_K X I hs hf (wpAny_mono (h E') (fun v s' hv => ?_) fun _ _ e => e))
    obtain ⟨k, rfl, q⟩ := hv
    refine wpAny_bind (wpAny_truthy_bool ?_)
    exact wpAny_pure (hR _ _ q)
  have Z := PySem.F.cmp_object.ne
  have go : ∀ (R : Option Value → Shared → Prop), (∀ k s', Q (.bool k) s' → R (some (.bool k)) s') → wpAny (model prog w) A (callSpecialIfBound? (.ref x) "__ne__" [b]) R E s := fun R hR => by
    have hcall : wpAny (model prog w) A (call (.builtin "object.__ne__") (.ref x :: [b])) (fun v => R (some v)) E s :=
      wpAny_call (codeAny_call_builtin Z.plain PySem.F.cmpEntry_ne (check_slot PySem.F.cmpKind_ne PySem.F.cmpSplit_ne sub (PySem.F.cmpArgs_ne _ _) (bod _ _ fun v s' q => hR v s' q)))
    simp only [callSpecialIfBound?, bindSpecialIfBound?]
    refine wpAny_holding (wpAny_bind (wpAny_bind (wpAny_bind (I.type.here ((looks_findIn X h0).here ?_)))))
    simp only [Z.bind]
    refine wpAny_bind (wpAny_askSetting (wpAny_ite ?_))
    have fin : wpAny (model prog w) A (call (.builtin "object.__ne__") ([.ref x] ++ [b]) >>= fun v => pure (some v)) R E s := wpAny_bind (wpAny_mono hcall (fun v s' h' => wpAny_pure h') fun _ _ h' => h')
    split
    · exact wpAny_bind (wpAny_pure (wpAny_pure fin))
    · exact wpAny_tryCatch (wpAny_bind (wpAny_pure (wpAny_pure fin)))
  have one : wpAny (model prog w) A (tryCompare (.ref x) "__ne__" b) (fun r s' => ∃ v, r = some v ∧ Q v s') E s := by
    unfold tryCompare
    exact wpAny_bind (go _ fun k s' q => wpAny_pure ⟨_, rfl, q⟩)
  unfold richCompare
  simp only [oneThing_ref]
  refine wpAny_holding (wpAny_bind (wpAny_cRoomFor (Nat.lt_of_succ_lt hu) ?_))
  refine wpAny_bind (I.type.here (wpAny_bind (hb.here ?_)))
  split
  · rename_i q
    have e : subIn K tb (.ref C) = some false := by
      rcases Bool.or_eq_true_iff.mp hn with e | e
      · rw [beq_iff_eq.mp e] at q; simp at q
      · exact beq_iff_eq.mp e
    refine wpAny_bind ((looks_subIn X e).here ?_)
    simp only [Bool.false_eq_true, if_false]
    refine wpAny_bind (wpAny_mono one (fun r s' z => ?_) fun _ _ e => e)
    obtain ⟨v, rfl, hq⟩ := z
    exact wpAny_pure hq
  · refine wpAny_bind (wpAny_pure ?_)
    simp only [Bool.false_eq_true, if_false]
    refine wpAny_bind (wpAny_mono one (fun r s' z => ?_) fun _ _ e => e)
    obtain ⟨v, rfl, hq⟩ := z
    exact wpAny_pure hq
theorem l3_looks_ref {M : Model} {h : Heap} {a : Addr} {o : Obj} (e : h.get? a = some o) : Looks M h (typeOf (.ref a)) o.cls := fun A Q E s k q => wpAny_typeOf_ref (k _ _ e) q
end
end PySem.W

namespace L3
open PySem L2
section
variable {X : Cx} {K : PySem.W.Frag} {W : WX} {e a b c o : Expr} {es : List Expr} {t : TE} {pos : Pos}
variable {k n : Nat} {f C g pp : Addr} {fd : FuncData} {ps : List Str} {ff : Fn} {dvs : List V} {dvl : List Value} {dd : List D} {x m : Str} {p apos : Pos}
/-- the type of a tree -/
def tyD : D → Option Value
  | .non => some (.type "NoneType")
  | .bl _ => some (.type "bool")
  | .int _ => some (.type "int")
  | .str _ => some (.type "str")
  | .tup _ => some (.type "tuple")
  | .lst _ => some (.type "list")
  | .dk _ _ => some (.type "dict")
  | .obj c _ _ => some (.ref c)
  | _ => none
theorem looks_ty {M : Model} {pins : List (Addr × Obj)} {σ : L2.St} {H F : Hp} {s : Shared} {d : D} {v : V} {u t : Value} (I : Inv X pins σ H s) (sF : Same F H) (r : Rep X.K F d v) (rv : RelV v u) (h : tyD d = some t) : PySem.W.Looks M s.heap (typeOf u) t := by
  cases d with
  | non => cases h; rw [show v = _ from r] at rv; cases (show u = Value.none from rv); exact PySem.W.Looks.of_pure rfl
  | bl i => cases h; rw [show v = _ from r] at rv; cases (show u = Value.bool i from rv); exact PySem.W.Looks.of_pure rfl
  | int i => cases h; rw [show v = _ from r] at rv; obtain ⟨t, rfl⟩ := (show ∃ t, u = Value.int i t from rv); exact PySem.W.Looks.of_pure rfl
  | str i => cases h; rw [show v = _ from r] at rv; obtain ⟨t, rfl⟩ := (show ∃ t, u = Value.str i t from rv); exact PySem.W.Looks.of_pure rfl
  | ty i => cases h
  | adr i => cases h
  | tup ds =>
    cases h
    obtain ⟨a, vs, rfl, h1, _⟩ := r
    cases (show u = Value.ref a from rv)
    obtain ⟨its, _, ⟨o, ho, hc, _⟩, _⟩ := I.tuple (seqT sF h1)
    rw [← hc]
    exact PySem.W.l3_looks_ref ho
  | lst ds =>
    cases h
    obtain ⟨a, vs, rfl, h1, _⟩ := r
    cases (show u = Value.ref a from rv)
    obtain ⟨its, _, ⟨o, n, ho, hc, _⟩, _⟩ := I.list (Same.seq sF h1)
    rw [← hc]
    exact PySem.W.l3_looks_ref ho
  | dk ks ds =>
    cases h
    obtain ⟨a, vs, rfl, h1, _⟩ := r
    cases (show u = Value.ref a from rv)
    obtain ⟨_, _, _, _, o, es, ep, h2, h3, _⟩ := (show ObjOk X.prog X.w H s.heap a (.dK (ks.zip vs)) from I.hok a _ (sF _ _ h1))
    have hc : o.cls = .type "dict" := h3.1
    rw [← hc]
    exact PySem.W.l3_looks_ref h2
  | obj c ns ds =>
    cases h
    obtain ⟨a, dx, vs, rfl, h1, _⟩ := r
    cases (show u = Value.ref a from rv)
    obtain ⟨mA, J, _⟩ := ins_get I.hok (sF _ _ h1)
    obtain ⟨od, J, _⟩ := J.look
    exact J.type
/-- what the written part says of an order method, of == -/
structure CmpIn (K : PySem.W.Frag) (C f : Addr) (nm : Str) : Prop where
  at_ : PySem.W.findIn K (.ref C) nm = some (some (.ref f))
  fn : PySem.W.isFn K (.ref f) = true
/-- a right operand whose class is not below C -/
def okCmp (K : PySem.W.Frag) (C : Addr) (e : D) : Prop := ∃ t, tyD e = some t ∧ PySem.W.notFirst K C t = true
theorem o_ownCmp {op : CmpOp} {nm : Str} (hop : (cmpInfo op).2.1 = nm) (hd : compareOp op = richCompare op) (O : CmpIn X.K C f nm) (Fk : FnG X.prog X.w X.K X.mg X.base (L2.CX X.prog X.w) k f fd ps (spF X.K 2 ff)) (hr : RmG k X.A) (hb : Binds X.K fd ps []) (hl : ∀ as R Y, ff as R Y → as.length = 2) :
    OpR X (compareOp op) (Op2 X.K (oOwn C ff (okCmp X.K C))) := by
  subst hop
  intro pins s σ H x y u v Q I rx ry h
  obtain ⟨F, d, e, P, sF, r1, r2, ⟨⟨ns, xs, rfl⟩, ⟨t, ht, hnf⟩, q⟩, kk⟩ := h
  obtain ⟨a, dx, vs, rfl, ha, hlv, rr⟩ := id r1
  cases (show u = Value.ref a from rx)
  obtain ⟨mA, J, _⟩ := ins_get I.hok (sF _ _ ha)
  obtain ⟨od, J, _⟩ := J.look
  obtain ⟨mm, hF⟩ := I.fr
  have go := run_own (A := X.A) (E := X.xe) (QQ := PySem.W.CmpBack (EP X pins σ Q)) Fk hr rfl hb I sF r1 r2 (u := .ref a) rfl ry q hl fun z hz w u F' H' s' I' rw' ex rep => notNI rw' ⟨w, H', I', rw', kk z hz w F' H' ex rep⟩
  rw [hd]
  exact PySem.W.cmp_K hr.r.units0 hF I.ok.mod.kin J (looks_ty I sF r2 ry ht) hnf O.at_ O.fn go
end
end L3

set_option Elab.async false
set_option linter.all false
set_option maxRecDepth 100000
set_option maxHeartbeats 1000000
namespace L3
open PySem L2
section
variable {X : Cx} {K : PySem.W.Frag} {W : WX} {e a b c o : Expr} {es : List Expr} {t : TE} {pos : Pos}
variable {k n : Nat} {f C g pp : Addr} {fd : FuncData} {ps : List Str} {ff : Fn} {dvs : List V} {dvl : List Value} {dd : List D} {x m : Str} {p apos : Pos}
def oOwnNe (C : Addr) (f : Fn) (okR : D → Prop) : O2 := fun d e P => (∃ ns xs, d = .obj C ns xs) ∧ okR e ∧ f [.v d, .v e] (fun r _ => ∃ k, rvD r = .bl k ∧ P (.bl (!k))) (fun _ _ => False)
theorem o_ownNe (h0 : PySem.W.findIn X.K (.ref C) "__ne__" = some (some (.builtin "object.__ne__"))) (ho : PySem.W.subIn X.K (.ref C) (.type "object") = some true) (O : CmpIn X.K C f "__eq__") (Fk : FnG X.prog X.w X.K X.mg X.base (L2.CX X.prog X.w) k f fd ps (spF X.K 2 ff)) (hr : RmG (k + 1) X.A) (hb : Binds X.K fd ps []) (hl : ∀ as R Y, ff as R Y → as.length = 2) :
    OpR X (compareOp .NotEq) (Op2 X.K (oOwnNe C ff (okCmp X.K C))) := by
  intro pins s σ H x y u v Q I rx ry h
  obtain ⟨F, d, e, P, sF, r1, r2, ⟨⟨ns, xs, rfl⟩, ⟨t, ht, hnf⟩, q⟩, kk⟩ := h
  obtain ⟨a, dx, vs, rfl, ha, hlv, rr⟩ := id r1
  cases (show u = Value.ref a from rx)
  obtain ⟨mA, J, _⟩ := ins_get I.hok (sF _ _ ha)
  obtain ⟨od, J, _⟩ := J.look
  obtain ⟨mm, hF⟩ := I.fr
  show wpAny (model X.prog X.w) X.A (richCompare .NotEq (.ref a) v) _ _ s
  refine PySem.W.l3_ne (by have := hr.r.un; omega) hF I.ok.mod.kin J (looks_ty I sF r2 ry ht) hnf h0 ho O.at_ O.fn fun E' => ?_
  exact run_own (P := fun z => ∃ k, z = .bl k ∧ P (.bl (!k))) Fk hr.in1 rfl hb I sF r1 r2 (u := .ref a) rfl ry q hl fun z ⟨k, hz, q3⟩ w u F' H' s' I' rw' ex rep => by
    subst hz
    rw [show w = .bl k from rep] at rw'
    cases (show u = Value.bool k from rw')
    exact ⟨k, rfl, .bl (!k), H', I', rfl, kk _ q3 _ F' H' ex rfl⟩

/-! ### data -/
mutual
def toP : D → Option PyData
  | .non => some .none
  | .bl b => some (.bool b)
  | .int i => some (.int i)
  | .str s => some (.str s)
  | .tup xs => (toPs xs).map .tuple
  | .lst xs => (toPs xs).map .list
  | _ => none
def toPs : List D → Option (List PyData)
  | [] => some []
  | d :: ds => match toP d, toPs ds with
    | some p, some ps => some (p :: ps)
    | _, _ => none
end
mutual
theorem dp_of {F H : Hp} (s : Same F H) : ∀ {d : D} {v : V} {q : PyData}, Rep K F d v → toP d = some q → Dp K H v q
  | .non, v, q, r, h => by cases h; rw [show v = _ from r]; exact .non
  | .bl b, v, q, r, h => by cases h; rw [show v = _ from r]; exact .bl b
  | .int b, v, q, r, h => by cases h; rw [show v = _ from r]; exact .int b
  | .str b, v, q, r, h => by cases h; rw [show v = _ from r]; exact .str b
  | .ty _, _, _, _, h => by cases h
  | .adr _, _, _, _, h => by cases h
  | .obj _ _ _, _, _, _, h => by cases h
  | .dk _ _, _, _, _, h => by cases h
  | .tup xs, v, q, r, h => by
    obtain ⟨a, vs, rfl, h1, h2⟩ := r
    cases e : toPs xs with
    | none => rw [show toP (.tup xs) = (toPs xs).map .tuple from rfl, e] at h; cases h
    | some ps =>
      rw [show toP (.tup xs) = (toPs xs).map .tuple from rfl, e] at h
      cases h
      exact .tup (seqT s h1) (dps_of s h2 e)
  | .lst xs, v, q, r, h => by
    obtain ⟨a, vs, rfl, h1, h2⟩ := r
    cases e : toPs xs with
    | none => rw [show toP (.lst xs) = (toPs xs).map .list from rfl, e] at h; cases h
    | some ps =>
      rw [show toP (.lst xs) = (toPs xs).map .list from rfl, e] at h
      cases h
      exact .lst (Same.seq s h1) (dps_of s h2 e)
theorem dps_of {F H : Hp} (s : Same F H) : ∀ {ds : List D} {vs : List V} {qs : List PyData}, Reps K F ds vs → toPs ds = some qs → DpAll K H vs qs
  | [], vs, qs, r, h => by cases h; rw [show vs = [] from r]; exact .nil
  | d :: ds, vs, qs, r, h => by
    obtain ⟨v, us, rfl, r1, r2⟩ := r
    cases e1 : toP d with
    | none => unfold toPs at h; rw [e1] at h; cases h
    | some q =>
      cases e2 : toPs ds with
      | none => unfold toPs at h; rw [e1, e2] at h; cases h
      | some rs =>
        unfold toPs at h
        rw [e1, e2] at h
        cases h
        exact .cons (dp_of s r1 e1) (dps_of s r2 e2)
end
def oEqD : O2 := fun d e P => ∃ p q, toP d = some p ∧ toP e = some q ∧ SeqAt.shaped p = true ∧ SeqAt.shaped q = true ∧ P (.bl (PyData.eqv p q))
def oNeD : O2 := fun d e P => ∃ p q, toP d = some p ∧ toP e = some q ∧ SeqAt.shaped p = true ∧ SeqAt.shaped q = true ∧ P (.bl (!PyData.eqv p q))
theorem o_eqD (hr : RmG k X.A) : OpR X (compareOp .Eq) (Op2 X.K oEqD) := op_of (op_eqD hr.r.units) fun x y H Q h => by
  obtain ⟨F, d, e, P, sF, r1, r2, ⟨p, q, h1, h2, s1, s2, q1⟩, kk⟩ := h
  exact ⟨p, q, dp_of sF r1 h1, dp_of sF r2 h2, s1, s2, kk _ q1 _ F H (Ext.refl sF) rfl⟩
theorem o_neD (hr : RmG k X.A) : OpR X (compareOp .NotEq) (Op2 X.K oNeD) := op_of (op_neD hr.r.units) fun x y H Q h => by
  obtain ⟨F, d, e, P, sF, r1, r2, ⟨p, q, h1, h2, s1, s2, q1⟩, kk⟩ := h
  exact ⟨p, q, dp_of sF r1 h1, dp_of sF r2 h2, s1, s2, kk _ q1 _ F H (Ext.refl sF) rfl⟩
theorem o_lt : OpR X (compareOp .Lt) (Op2 K (oI CT fun i j => .bl (decide (i < j)))) := op2_I0 op_lt fun _ _ _ => rfl
theorem o_le : OpR X (compareOp .LtE) (Op2 K (oI CT fun i j => .bl (decide (i ≤ j)))) := op2_I0 op_le fun _ _ _ => rfl
theorem o_gt : OpR X (compareOp .Gt) (Op2 K (oI CT fun i j => .bl (decide (j < i)))) := op2_I0 op_gt fun _ _ _ => rfl
theorem o_ge : OpR X (compareOp .GtE) (Op2 K (oI CT fun i j => .bl (decide (j ≤ i)))) := op2_I0 op_ge fun _ _ _ => rfl
def oIs (neg : Bool) : O2 := fun d e P => e = .non ∧ ((d = .non ∧ P (.bl (!neg))) ∨ ((∃ t, tyD d = some t ∧ d ≠ .non) ∧ P (.bl neg)))
theorem rep_nn {F : Hp} {d : D} {v : V} {t : Value} (r : Rep K F d v) (h : tyD d = some t) (hn : d ≠ .non) : v ≠ .non := fun z => by
  subst z
  cases d with
  | non => exact hn rfl
  | bl i => cases (show V.non = V.bl i from r)
  | int i => cases (show V.non = V.int i from r)
  | str i => cases (show V.non = V.str i from r)
  | ty i => cases h
  | adr i => cases h
  | tup xs => obtain ⟨_, _, z, _⟩ := r; cases z
  | lst xs => obtain ⟨_, _, z, _⟩ := r; cases z
  | dk ks xs => obtain ⟨_, _, z, _⟩ := r; cases z
  | obj c ns xs => obtain ⟨_, _, _, z, _⟩ := r; cases z
theorem o_is : OpR X (compareOp .Is) (Op2 X.K (oIs false)) := op_of op_isN fun x y H Q h => by
  obtain ⟨F, d, e, P, sF, r1, r2, ⟨rfl, q⟩, kk⟩ := h
  refine ⟨r2, ?_⟩
  rcases q with ⟨rfl, q⟩ | ⟨⟨t, ht, hn⟩, q⟩
  · rw [show x = _ from r1]
    exact kk _ q _ F H (Ext.refl sF) rfl
  · rw [decide_eq_false (rep_nn r1 ht hn)]
    exact kk _ q _ F H (Ext.refl sF) rfl
theorem o_isnot : OpR X (compareOp .IsNot) (Op2 X.K (oIs true)) := op_of op_notN fun x y H Q h => by
  obtain ⟨F, d, e, P, sF, r1, r2, ⟨rfl, q⟩, kk⟩ := h
  refine ⟨r2, ?_⟩
  rcases q with ⟨rfl, q⟩ | ⟨⟨t, ht, hn⟩, q⟩
  · rw [show x = _ from r1]
    exact kk _ q _ F H (Ext.refl sF) rfl
  · rw [decide_eq_false (rep_nn r1 ht hn)]
    exact kk _ q _ F H (Ext.refl sF) rfl
theorem o_neg : UnR X (unaryOp .USub) (Op1 K fun d P => ∃ i, d = .int i ∧ P (.int (-i))) := fun pins s σ H x v Q I rx h => by
  obtain ⟨F, d, P, sF, r1, ⟨i, rfl, q⟩, kk⟩ := h
  exact un_neg pins s σ H x v Q I rx ⟨i, r1, kk _ q _ F H (Ext.refl sF) rfl⟩

/-! ### built-ins -/
/-- a call's rule on trees -/
abbrev OC := List D → (D → Prop) → Prop
def OpC (K : PySem.W.Frag) (r : OC) : List V → Hp → VK → Prop := fun vs H Q => ∃ F ds P, Same F H ∧ Reps K F ds vs ∧ r ds P ∧ ∀ z, P z → ∀ v F' H', Ext F H F' H' → Rep K F' z v → Q v H'
def wCB (r : OC) (u : Wa) : Wt := fun δ Q Y => u δ (fun as δ1 => ∃ ds, trees as = some ds ∧ r ds fun z => Q z δ1) Y
theorem tr_cb {r : OC} {u : Wa} {σ : L2.St} {H : Hp} {Q : VK} (h : Tr K W (wCB r u) σ H Q) : tCB (OpC K r) (TrA K W u) σ H Q := by
  obtain ⟨b, δ, F, Po, Px, wf, rs, q, k, kx⟩ := h
  refine ⟨b, δ, F, _, _, wf, rs, q, fun as δ1 q1 vs F1 H1 wf1 s1 r1 ra => ?_, kx⟩
  obtain ⟨ds, hds, q2⟩ := q1
  exact ⟨F1, ds, _, wf1.fh, reps_of ra hds, q2, fun z q3 v F' H' ex rz => k z δ1 q3 v F' H' (wf1.ext ex) (s1.trans ex.ff) (r1.ext ex) rz⟩
theorem x_callB {r : OC} {u : Wa} {id : String} (hc : CallR X (.builtin id) (OpC X.K r)) (hm : X.mg x = none) (hv : bootBuiltins x = some (.builtin id)) (ha : PA X (e :: es) (TrA X.K W u)) (hg : Gl X x := by rfl) (hn : x ≠ "__name__" := by decide) (hdb : (x == ("__debug__" : Str)) = false := by decide)
    (he : starEach (e :: es) X.env = (false, eval e X.env) :: starEach es X.env := by rfl) (hpl : (backTo pos (starEach es X.env)).any (·.1) = false := by rfl) : PE X (.Call (.Name x p) (e :: es) [] pos) (Tr X.K W (wCB r u)) := pe_imp (pe_callB hc hg hm hv ha hn hdb he hpl) fun _ _ _ => tr_cb
theorem x_callTy {r : OC} {u : Wa} {T : String} (hc : CallR X (.type T) (OpC X.K r)) (hm : X.mg x = none) (hv : bootBuiltins x = some (.type T)) (ha : PA X (e :: es) (TrA X.K W u)) (hg : Gl X x := by rfl) (hn : x ≠ "__name__" := by decide) (hdb : (x == ("__debug__" : Str)) = false := by decide)
    (he : starEach (e :: es) X.env = (false, eval e X.env) :: starEach es X.env := by rfl) (hpl : (backTo pos (starEach es X.env)).any (·.1) = false := by rfl) : PE X (.Call (.Name x p) (e :: es) [] pos) (Tr X.K W (wCB r u)) := pe_imp (pe_callTy hc hg hm hv ha hn hdb he hpl) fun _ _ _ => tr_cb
theorem cr_of {f : Value} {r : List V → Hp → VK → Prop} {r' : OC} (h : CallR X f r) (i : ∀ vs H Q, OpC K r' vs H Q → r vs H Q) : CallR X f (OpC K r') := fun pins s σ H vs us Q I rv q => h pins s σ H vs us Q I rv (i _ _ _ q)
theorem reps1 {F : Hp} {d : D} {vs : List V} (r : Reps K F [d] vs) : ∃ v, vs = [v] ∧ Rep K F d v := by
  obtain ⟨v, us, rfl, r1, r2⟩ := r
  rw [show us = [] from r2]
  exact ⟨v, rfl, r1⟩
theorem reps2 {F : Hp} {d e : D} {vs : List V} (r : Reps K F [d, e] vs) : ∃ v w, vs = [v, w] ∧ Rep K F d v ∧ Rep K F e w := by
  obtain ⟨v, us, rfl, r1, r2⟩ := r
  obtain ⟨w, rfl, r3⟩ := reps1 r2
  exact ⟨v, w, rfl, r1, r3⟩
theorem b_abs : CallR X (.builtin "abs") (OpC K fun ds P => ∃ i, ds = [.int i] ∧ P (.int (if i < 0 then -i else i))) := cr_of call_abs fun vs H Q h => by
  obtain ⟨F, ds, P, sF, rr, ⟨i, rfl, q⟩, kk⟩ := h
  obtain ⟨v, rfl, r1⟩ := reps1 rr
  exact ⟨i, by rw [show v = _ from r1], kk _ q _ F H (Ext.refl sF) rfl⟩
theorem b_int : CallR X (.type "int") (OpC K fun ds P => (∃ i, ds = [.int i] ∧ P (.int i)) ∨ ∃ k, ds = [.bl k] ∧ P (.int (if k then 1 else 0))) := cr_of call_int1 fun vs H Q h => by
  obtain ⟨F, ds, P, sF, rr, q, kk⟩ := h
  rcases q with ⟨i, rfl, q⟩ | ⟨i, rfl, q⟩
  · obtain ⟨v, rfl, r1⟩ := reps1 rr
    exact .inl ⟨i, by rw [show v = _ from r1], kk _ q _ F H (Ext.refl sF) rfl⟩
  · obtain ⟨v, rfl, r1⟩ := reps1 rr
    exact .inr ⟨i, by rw [show v = _ from r1], kk _ q _ F H (Ext.refl sF) rfl⟩
theorem b_max2 (hc : X.calm = true) : CallR X (.builtin "max") (OpC K fun ds P => ∃ i j, ds = [.int i, .int j] ∧ P (.int (if j > i then j else i))) := cr_of (call_max2 hc) fun vs H Q h => by
  obtain ⟨F, ds, P, sF, rr, ⟨i, j, rfl, q⟩, kk⟩ := h
  obtain ⟨v, w, rfl, r1, r2⟩ := reps2 rr
  exact ⟨i, j, by rw [show v = _ from r1, show w = _ from r2], kk _ q _ F H (Ext.refl sF) rfl⟩
theorem b_min2 (hc : X.calm = true) : CallR X (.builtin "min") (OpC K fun ds P => ∃ i j, ds = [.int i, .int j] ∧ P (.int (if j < i then j else i))) := cr_of (call_min2 hc) fun vs H Q h => by
  obtain ⟨F, ds, P, sF, rr, ⟨i, j, rfl, q⟩, kk⟩ := h
  obtain ⟨v, w, rfl, r1, r2⟩ := reps2 rr
  exact ⟨i, j, by rw [show v = _ from r1, show w = _ from r2], kk _ q _ F H (Ext.refl sF) rfl⟩
theorem b_len : CallR X (.builtin "len") (OpC X.K fun ds P => ∃ d xs, ds = [d] ∧ itemsOf d = some xs ∧ P (.int xs.length)) := cr_of call_len_seq fun vs H Q h => by
  obtain ⟨F, ds, P, sF, rr, ⟨d, xs, rfl, hx, q⟩, kk⟩ := h
  obtain ⟨v, rfl, r1⟩ := reps1 rr
  cases d with
  | lst ys =>
    cases hx
    obtain ⟨l, us, rfl, h1, h2⟩ := r1
    refine ⟨l, us, rfl, .inl (Same.seq sF h1), ?_⟩
    rw [h2.length]
    exact kk _ q _ F H (Ext.refl sF) rfl
  | tup ys =>
    cases hx
    obtain ⟨l, us, rfl, h1, h2⟩ := r1
    refine ⟨l, us, rfl, .inr (seqT sF h1), ?_⟩
    rw [h2.length]
    exact kk _ q _ F H (Ext.refl sF) rfl
  | _ => cases hx
theorem b_gcd : CallR X (.builtin "math.gcd") (OpC K fun ds P => ∃ i j, ds = [.int i, .int j] ∧ P (.int ((Nat.gcd i.natAbs j.natAbs : Nat) : Int))) := cr_of cr_gcd fun vs H Q h => by
  obtain ⟨F, ds, P, sF, rr, ⟨i, j, rfl, q⟩, kk⟩ := h
  obtain ⟨v, w, rfl, r1, r2⟩ := reps2 rr
  exact ⟨i, j, by rw [show v = _ from r1, show w = _ from r2], kk _ q _ F H (Ext.refl sF) rfl⟩
theorem x_callBf {r : OC} {u : Wa} {id : String} (hc : CallR X (.builtin id) (OpC X.K r)) (hm : X.mg x = some (.builtin id)) (ha : PA X (e :: es) (TrA X.K W u)) (hg : Gl X x := by rfl) (hdb : (x == ("__debug__" : Str)) = false := by decide)
    (he : starEach (e :: es) X.env = (false, eval e X.env) :: starEach es X.env := by rfl) (hpl : (backTo pos (starEach es X.env)).any (·.1) = false := by rfl) : PE X (.Call (.Name x p) (e :: es) [] pos) (Tr X.K W (wCB r u)) := pe_imp (pe_callBfun hc hg hm ha hdb he hpl) fun _ _ _ => tr_cb
/-- a class as a value -/
def clsU : D → Option Value
  | .ty n => some (.type n)
  | .adr a => some (.ref a)
  | _ => none
/-- what the written part says of C's instances for isinstance -/
structure IsiC (K : PySem.W.Frag) (C : Addr) : Prop where
  ty : ∀ (H : Hp) (a dx : Addr) (fs : List (Str × V)), H a = some (.ins C dx fs) → TyX K H (.ref a) (.ref C)
def tyOk (K : PySem.W.Frag) (d : D) : Prop := match d with
  | .obj c _ _ => IsiC K c
  | .lst _ | .tup _ | .dk _ _ | .non | .bl _ | .int _ | .str _ => True
  | _ => False
theorem tyX_of {F H : Hp} {d : D} {v : V} {t : Value} (s : Same F H) (r : Rep K F d v) (h : tyD d = some t) (ok : tyOk K d) : TyX K H v t := by
  cases d with
  | non => cases h; rw [show v = _ from r]; exact .base .non
  | bl i => cases h; rw [show v = _ from r]; exact .base (.bl _)
  | int i => cases h; rw [show v = _ from r]; exact .base (.int _)
  | str i => cases h; rw [show v = _ from r]; exact .base (.str _)
  | ty i => cases h
  | adr i => cases h
  | tup ds =>
    cases h
    obtain ⟨a, vs, rfl, h1, _⟩ := r
    rcases h1 with (h1 | ⟨o, h1⟩) | ⟨o, its, n, h1, h2, _⟩
    · exact .base (.tup (s _ _ h1))
    · exact .fTuple (s _ _ h1)
    · exact .kTuple h1 h2
  | lst ds =>
    cases h
    obtain ⟨a, vs, rfl, h1, _⟩ := r
    rcases h1 with (h1 | ⟨o, h1⟩) | ⟨o, its, n, h1, h2, _⟩
    · exact .base (.lst (s _ _ h1))
    · exact .base (.frz (s _ _ h1))
    · exact .kList h1 h2
  | dk ks ds =>
    cases h
    obtain ⟨a, vs, rfl, h1, _⟩ := r
    exact .base (.dK (s _ _ h1))
  | obj c ns ds =>
    cases h
    obtain ⟨a, dx, vs, rfl, h1, _⟩ := r
    exact ok.ty H a dx _ (s _ _ h1)
theorem b_isi : CallR X (.builtin "isinstance") (OpC X.K fun ds P => ∃ d c t u k, ds = [d, c] ∧ clsU c = some u ∧ tyD d = some t ∧ tyOk X.K d ∧ PySem.W.kitOne X.K t u = some k ∧ P (.bl k)) := cr_of call_isi fun vs H Q h => by
  obtain ⟨F, ds, P, sF, rr, ⟨d, c, t, u, k, rfl, hc, ht, ok, hk, q⟩, kk⟩ := h
  obtain ⟨v, w, rfl, r1, r2⟩ := reps2 rr
  refine ⟨v, w, t, u, k, rfl, ?_, tyX_of sF r1 ht ok, hk, kk _ q _ F H (Ext.refl sF) rfl⟩
  cases c with
  | ty n => cases hc; rw [show w = _ from r2]; exact .ty n
  | adr a => cases hc; rw [show w = _ from r2]; exact .own a
  | _ => cases hc
end
end L3

set_option Elab.async false
set_option linter.all false
set_option maxRecDepth 100000
set_option maxHeartbeats 1000000
namespace L2
open PySem PySem.Spec PyProof.Rows
/-- X(), X an own exception class without own __init__ -/
theorem pmk_own0 {X : Cx} {C : Addr} {bmB : List Value} {B newId initId : String} {x : Str} {p pos : Pos} (F : ExcBaseFacts B newId initId bmB) (q : PySem.W.excIn X.K C bmB newId = true) (gC : X.mg x = some (.ref C))
    (kC : PySem.W.keepIn X.K (.ref C) = true) (r : Raises X (.ref C)) (hg : Gl X x) (hdb : (x == ("__debug__" : Str)) = false := by decide) :
    PMk X (.Call (.Name x p) [] [] pos) (fun σ H Q => Q (.ref C) none H) := by
  intro pins s σ H Q I h
  refine wpAny_Call_Name_kw (ld_glob I hg gC ?_ hdb)
  refine PySem.W.callWith_K0 I.kIn kC ?_
  show wpAny _ _ (call (.ref C) []) _ _ _
  obtain ⟨bm, N, nm, qn, bs, hdct, sn, sub, ab, col, dd, k0, k1, k2, k3, k5, mN, hC, hN, hni, T⟩ := exc_obj I.kIn q
  refine wpAny_call_exc_subT F T hC hN hni (fun h' e hm => ?_) (by show 0 ≤ sizeLine; decide)
  exact mk_of I hm r h (I.hok.gone hm.new)
end L2
namespace L3
open PySem L2
section
variable {X : Cx} {K : PySem.W.Frag} {W : WX} {e a b c o : Expr} {es : List Expr} {t : TE} {pos : Pos}
variable {k n : Nat} {f C g pp : Addr} {fd : FuncData} {ps : List Str} {ff : Fn} {dvs : List V} {dvl : List Value} {dd : List D} {x m : Str} {p apos : Pos}

/-! ### errors -/
/-- what the written part says of an error class without __init__ -/
structure Er0 (K : PySem.W.Frag) (mg : Str → Option Value) (C : Addr) (x : Str) : Prop where
  q : PySem.W.excIn K C [.type "ValueError", .type "Exception", .type "BaseException", .type "object"] "ValueError.__new__" = true
  g : mg x = some (.ref C)
  k : PySem.W.keepIn K (.ref C) = true
  b : PySem.W.subIn K (.ref C) (.type "BaseException") = some true
  t : PySem.W.typeIn K (.ref C) = some (.type "type")
def wRaise0 (C : Addr) : Ws := fun δ E => E.xx (C, []) δ
theorem s_raise0 (hc : X.calm = true) (tk : Takes X W) (T : Er0 X.K X.mg C x) (hg : Gl X x := by rfl) (hdb : (x == ("__debug__" : Str)) = false := by decide) {p1 p2 p3 : Pos} : PS X (.Raise (some (.Call (.Name x p1) [] [] p2)) none p3) (TrS X.K W (wRaise0 C)) :=
  ps_imp (ps_raise hc tk (pmk_own0 F.excBase_ValueError T.q T.g T.k (raises_own T.b T.t) hg hdb)) fun Dn σ H h => by
  obtain ⟨b, δ, F, E, wf, r, q, k1, k2, k3, k4, k5⟩ := h
  exact k5 _ δ q σ F H wf (Same.refl _) r _ _ ⟨rfl, rfl⟩
/-- .. of an error class whose __init__ keeps its one argument as fld -/
structure Er1 (K : PySem.W.Frag) (mg : Str → Option Value) (C fI : Addr) (x fld : Str) : Prop where
  o : OexC K C
  g : mg x = some (.ref C)
  iC : PySem.W.findIn K (.ref C) "__init__" = some (some (.ref fI))
  tI : PySem.W.typeIn K (.ref fI) = some (.type "function")
  no : PySem.W.findIn K (.ref C) fld = some none
  xf : XfC K C
/-- the promise of such an __init__ -/
def spXI (C : Addr) (fld : Str) : Sp := fun vs H Q _ => ∃ a v, vs = [.ref a, v] ∧ H a = some (exo a C none) ∧ ∀ dx, H dx = none → dx ≠ a → Q .non (upd (upd H dx (exd dx [(fld, v)])) a (exo a C (some dx)))
theorem xinit_ok {P : Program} {w : World} {mg : Str → Option Value} {base : Heap} {qual par fld xn : Str} {st : Stmt} {f C : Addr} {fd : FuncData} {p1 p2 p3 p4 : Pos} (F : L2.Fun K "__init__" qual st f fd) (T : Er1 K mg C f xn fld) (S : FnScope ["self", par] ["self", par] (defScope st))
    (hb : defBody st = [.Assign [.Attribute (.Name "self" p1) fld p2] (.Name par p3) p4]) (d1 : (par == ("__debug__" : Str)) = false) (d2 : (par == ("__classdict__" : Str)) = false) (v1 : (defScope st).names.lookup ("self" : Str) = some .local) (v2 : (defScope st).names.lookup par = some .local) :
    FnOk P w K mg base (L2.CX P w) 1 f fd ["self", par] (spXI C fld) := by
  refine F.okX S (fun vs H Q E h => by obtain ⟨a, v, rfl, _⟩ := h; rfl) fun cdv A outer s H vs Q E hr h => ?_
  rw [hb]
  obtain ⟨a, v, rfl, ha, q⟩ := h
  refine ⟨_, pss_one (ps_ost (pe_var (i := 0) rfl (.inl v1)) (pe_var (i := 1) rfl (.inl v2) d1 d2)), ?_⟩
  exact ⟨_, rfl, _, rfl, a, C, rfl, T.o, T.no, .inl ⟨ha, fun dx n1 n2 => q dx n1 n2⟩⟩
def wRaise1 (C : Addr) (fld : Str) (u : Wt) : Ws := fun δ E => u δ (fun d δ1 => E.xx (C, [(fld, d)]) δ1) E.xx
theorem s_raise1 {fld : Str} {u : Wt} (hc : X.calm = true) (tk : Takes X W) (T : Er1 X.K X.mg C f x fld) (F1 : FnOk X.prog X.w X.K X.mg X.base (L2.CX X.prog X.w) 1 f fd ps (spXI C fld)) (hr : RmG 2 X.A) (hb : Binds X.K fd ps []) (ha : PE X e (Tr X.K W u)) (hg : Gl X x := by rfl) (hdb : (x == ("__debug__" : Str)) = false := by decide) {p1 p2 p3 : Pos}
    (he : starEach (e :: []) X.env = (false, eval e X.env) :: starEach [] X.env := by rfl) : PS X (.Raise (some (.Call (.Name x p1) [e] [] p2)) none p3) (TrS X.K W (wRaise1 C fld u)) :=
  ps_imp (ps_raise hc tk (pmk_oex T.o T.iC T.tI F1 hr.r hb .nil passL hg T.g (pa_cons ha pa_nil he) hdb he rfl)) fun Dn σ H h => by
  obtain ⟨b, δ, F, E, wf, r, q, k1, k2, k3, k4, k5⟩ := h
  refine ⟨b, δ, F, _, _, wf, r, q, fun d δ1 q1 v F1 H1 wf1 s1 r1 rv => ?_, k5_of k5⟩
  refine ⟨by show 1 ≤ 1000; decide, fun a na => ⟨a, v, rfl, upd_same, fun dx ndx nda => ⟨rfl, dx, [(fld, v)], upd_same, ?_, ?_, ?_⟩⟩⟩
  · rw [upd_ne nda, upd_same]
  · rw [upd_ne nda] at ndx; exact ndx
  · have n1 : H1 dx = none := by rw [upd_ne nda] at ndx; exact ndx
    have eH : upd (del (upd (upd (upd H1 a (exo a C none)) dx (exd dx [(fld, v)])) a (exo a C (some dx))) a) dx (.xd [(fld, v)]) = upd H1 dx (.xd [(fld, v)]) := by
      funext y
      by_cases h1 : y = dx
      · subst h1; rw [upd_same, upd_same]
      · rw [upd_ne h1, upd_ne h1]
        by_cases h2 : y = a
        · subst h2; rw [del_same, na]
        · rw [del_ne h2, upd_ne h2, upd_ne h1, upd_ne h2]
    have goal : ∀ HH, HH = upd H1 dx (.xd [(fld, v)]) → W (.ref C) (some dx) σ HH := fun HH e => by
      subst e
      have ex := Ext.new1 (o := .xd [(fld, v)]) wf1.fh n1
      exact k5 _ δ1 q1 σ _ _ (wf1.ext ex) (s1.trans ex.ff) (r1.ext ex) _ _ ⟨rfl, dx, [v], rfl, upd_same, Reps.cons (rv.mono ex.ff) rfl⟩
    exact goal _ eH

/-! ### try -/
abbrev W0 : WX := fun _ _ _ _ => False
/-- one clause, no name -/
def wTry (K : PySem.W.Frag) (C : Value) (wb ws : Ws) : Ws := fun δ E => wb δ { E with xx := fun er δ1 => ∃ k, PySem.W.exmOne K (.ref er.1) C = some k ∧ (k = true → ws δ1 { E with xx := fun _ _ => False }) ∧ (k = false → E.xx er δ1) }
theorem s_try {c0 : Value} {body suite : List Stmt} {b0 : Stmt} {np p1 : Pos} {wb ws : Ws} (hs : X.stack = X.env :: X.outer) (hf : X.env.frame = some X.env.locals) (hc : Names X x c0) (tk : Takes X W)
    (hb : ∀ (W : WX) (pn : List (Addr × Obj)) (xe : Value → Shared → Prop), Takes (X.tr pn xe) W → PassesOwn (model X.prog X.w) X.A X.env xe → PSs (X.tr pn xe) body (TrS X.K W wb))
    (hsu : ∀ (a : Addr) (oe : Obj) (cls : Value) (d : Option Addr) (pn : List (Addr × Obj)), Zc cls d oe → (∃ vs, oe.data = .fields vs) → PSs (X.suite a ((a, oe) :: pn)) (b0 :: suite) (TrS X.K W0 ws)) :
    PS X (.Try body [.ExceptHandler (some (.Name x np)) none (b0 :: suite) p1] [] [] pos) (TrS X.K W (wTry X.K c0 wb ws)) := ps_imp (ps_try_only hs hf hc tk hb hsu) fun Dn σ H h => by
  obtain ⟨b, δ, F, E, wf, r, q, k1, k2, k3, k4, k5⟩ := h
  refine ⟨b, δ, F, _, wf, r, q, k1, k2, k3, k4, fun er δ1 q1 σ1 F1 H1 wf1 s1 r1 cls d rx => ?_⟩
  obtain ⟨k, hk, y1, y2⟩ := q1
  refine ⟨k, by rw [rx.1]; exact hk, fun kt a na => ?_, fun kf => k5 er δ1 (y2 kf) σ1 F1 H1 wf1 s1 r1 cls d rx⟩
  exact ⟨b, δ1, F1, _, wf1, r1, y1 kt, fun δ2 q2 σ2 F2 H2 wf2 s2 r2 => k1 δ2 q2 σ2 F2 H2 wf2 (s1.trans s2) r2, fun δ2 q2 σ2 F2 H2 wf2 s2 r2 => k2 δ2 q2 σ2 F2 H2 wf2 (s1.trans s2) r2, fun δ2 q2 σ2 F2 H2 wf2 s2 r2 => k3 δ2 q2 σ2 F2 H2 wf2 (s1.trans s2) r2,
    fun rv δ2 q2 v F2 H2 wf2 s2 => k4 rv δ2 q2 v F2 H2 wf2 (s1.trans s2), fun _ _ z => z.elim⟩
/-- one clause, the error in slot i -/
def wTryAs (K : PySem.W.Frag) (C : Value) (i : Nat) (wb : Ws) (ws : Addr → Value → Option Addr → Ws) : Ws := fun δ E => wb δ { E with xx := fun er δ1 => ∃ k, PySem.W.exmOne K (.ref er.1) C = some k ∧
  (k = true → ∀ a d, (er.2 ≠ [] → d ≠ none) → ws a (.ref er.1) d (δ1.set i (.ex a (.ref er.1) d (er.2.map (·.1)) (er.2.map (·.2)))) { nx := fun δ2 => E.nx (δ2.set i .no), rt := E.rt, bk := fun δ2 => E.bk (δ2.set i .no), ct := fun δ2 => E.ct (δ2.set i .no), xx := fun _ _ => False }) ∧ (k = false → E.xx er δ1) }
theorem Rs.setNo {b : B} {δ : List S} {σ : L2.St} {F H : Hp} {i : Nat} (r : Rs K b δ σ F H) : Rs K b (δ.set i .no) (σ.set i none) F H := r.set (fun y e => by cases e) (fun _ => rfl) (fun o => by cases o)
theorem s_tryAs {c0 : Value} {body suite : List Stmt} {b0 : Stmt} {np p1 : Pos} {nm : Str} {wb : Ws} {ws : Addr → Value → Option Addr → Ws} (i : Nat) (hs : X.stack = X.env :: X.outer) (hf : X.env.frame = some X.env.locals) (hN : X.N.Nodup) (hi : X.N[i]? = some nm) (hln : X.env.kindOf nm = some .local) (hc : Names X x c0) (tk : Takes X W)
    (hb : ∀ (W : WX) (pn : List (Addr × Obj)) (xe : Value → Shared → Prop), Takes (X.tr pn xe) W → PassesOwn (model X.prog X.w) X.A X.env xe → PSs (X.tr pn xe) body (TrS X.K W wb))
    (hsu : ∀ (a : Addr) (oe : Obj) (cls : Value) (d : Option Addr) (pn : List (Addr × Obj)), Zc cls d oe → (∃ vs, oe.data = .fields vs) → PSs (X.suite a ((a, oe) :: pn)) (b0 :: suite) (TrS X.K W0 (ws a cls d))) :
    PS X (.Try body [.ExceptHandler (some (.Name x np)) (some nm) (b0 :: suite) p1] [] [] pos) (TrS X.K W (wTryAs X.K c0 i wb ws)) := ps_imp (ps_try_as (i := i) hs hf hN hi hln hc tk hb hsu) fun Dn σ H h => by
  obtain ⟨b, δ, F, E, wf, r, q, k1, k2, k3, k4, k5⟩ := h
  refine ⟨b, δ, F, _, wf, r, q, k1, k2, k3, k4, fun er δ1 q1 σ1 F1 H1 wf1 s1 r1 cls d rx => ?_⟩
  obtain ⟨k, hk, y1, y2⟩ := q1
  refine ⟨k, by rw [rx.1]; exact hk, fun kt a na => ?_, fun kf => k5 er δ1 (y2 kf) σ1 F1 H1 wf1 s1 r1 cls d rx⟩
  obtain ⟨hcl, hx⟩ := id rx
  subst hcl
  have hd : er.2 ≠ [] → d ≠ none := fun hne z => by
    subst z
    cases q : er.2 with
    | nil => exact hne q
    | cons y ys => rw [q] at hx; obtain ⟨_, _, z, _⟩ := hx; cases z
  have r1' : Rs X.K b (δ1.set i (.ex a (.ref er.1) d (er.2.map (·.1)) (er.2.map (·.2)))) (σ1.set i (some (.ref a))) F1 H1 := r1.set (fun y e => by
      cases e
      refine ⟨rfl, fun z hz => ?_⟩
      subst hz
      cases q : er.2 with
      | nil => rw [q] at hx; cases (show some z = none from hx)
      | cons y ys =>
        rw [q] at hx
        obtain ⟨z', vs, h1, h2, h3⟩ := hx
        cases h1
        exact ⟨vs, h2, h3⟩) (fun e => by cases e) (fun o => by cases o)
  exact ⟨b, _, F1, _, wf1, r1', y1 kt a d hd, fun δ2 q2 σ2 F2 H2 wf2 s2 r2 => k1 _ q2 _ F2 H2 wf2 (s1.trans s2) r2.setNo, fun δ2 q2 σ2 F2 H2 wf2 s2 r2 => k2 _ q2 _ F2 H2 wf2 (s1.trans s2) r2.setNo, fun δ2 q2 σ2 F2 H2 wf2 s2 r2 => k3 _ q2 _ F2 H2 wf2 (s1.trans s2) r2.setNo,
    fun rv δ2 q2 v F2 H2 wf2 s2 => k4 rv δ2 q2 v F2 H2 wf2 (s1.trans s2), fun _ _ z => z.elim⟩
/-- e.f, e the error in slot i -/
def wXf (a : Addr) (cls : Value) (d : Option Addr) (C : Addr) (i : Nat) (fld : Str) : Wt := fun δ Q _ => cls = .ref C ∧ d ≠ none ∧ ∃ ns xs z, δ[i]? = some (.ex a cls d ns xs) ∧ (ns.zip xs).lookup fld = some z ∧ Q z δ
theorem x_xf {a : Addr} {oe : Obj} {cls : Value} {d : Option Addr} {pn : List (Addr × Obj)} {fld : Str} {p1 p2 : Pos} (i : Nat) (T : XfC X.K C) (hno : PySem.W.findIn X.K (.ref C) fld = some none) (hz : Zc cls d oe) (hf : ∃ vs, oe.data = .fields vs)
    (hN : X.N[i]? = some x := by rfl) (hv : Vis X.env.scope x := by first | exact Or.inl rfl | exact Or.inr (Or.inl rfl) | exact Or.inr (Or.inr rfl)) (hd : (x == ("__debug__" : Str)) = false := by decide)
    (hcd : (x == ("__classdict__" : Str)) = false := by decide) (hb : attributeBase (.Name x p1) fld X.env (eval (.Name x p1) X.env) = eval (.Name x p1) X.env := by rfl) : PE (X.suite a ((a, oe) :: pn)) (.Attribute (.Name x p1) fld p2) (Tr X.K W (wXf a cls d C i fld)) :=
  pe_imp (pe_xf T hno hz hf (pe_var hN hv hd hcd) hb) fun σ H Q h => by
  obtain ⟨b, δ, F, Po, Px, wf, r, ⟨hc, hdn, ns, xs, z, hi, hl, q⟩, k, kx⟩ := h
  have lt : i < δ.length := (List.getElem?_eq_some_iff.mp hi).1
  have hs : i < List.length σ := by rw [r.len]; exact lt
  obtain ⟨h1, h2⟩ := r.sl i _ _ hi (List.getElem?_eq_getElem hs)
  cases d with
  | none => exact absurd rfl hdn
  | some dd =>
    obtain ⟨vs, h3, h4⟩ := h2 dd rfl
    obtain ⟨v, hv', rv⟩ := look_zip h4 hl
    exact ⟨.ref a, by rw [List.getElem?_eq_getElem hs, h1], rfl, hc, dd, _, v, rfl, wf.fh _ _ h3, hv', k z δ q v F H wf (Same.refl _) r rv⟩
end
end L3

set_option Elab.async false
set_option linter.all false
set_option maxRecDepth 100000
set_option maxHeartbeats 1000000
namespace L3
open PySem L2
section
variable {X : Cx} {K : PySem.W.Frag} {W : WX} {e a b c o tg : Expr} {es : List Expr} {t : TE} {pos : Pos}
variable {k n : Nat} {f C g pp : Addr} {fd : FuncData} {ps : List Str} {ff : Fn} {dvs : List V} {dvl : List Value} {dd : List D} {x m : Str} {p apos : Pos}

/-! ### targets -/
abbrev Wg := D → List S → (List S → Prop) → Prop
def Only (ts : List Nat) (σ σ' : L2.St) : Prop := List.length σ' = List.length σ ∧ ∀ j : Nat, j ∉ ts → σ'[j]? = σ[j]?
def TrG (K : PySem.W.Frag) (ts : List Nat) (w : Wg) : TG := fun v σ H Q => ∃ b δ F d Po, Wf b F H ∧ Rs K b δ σ F H ∧ Rep K F d v ∧ w d δ Po ∧ ∀ δ', Po δ' → ∀ σ', Only ts σ σ' → Rs K b δ' σ' F H → Q σ' H
abbrev Wgs := List D → List S → (List S → Prop) → Prop
def TrGs (K : PySem.W.Frag) (ts : List Nat) (w : Wgs) : TGs := fun vs σ H Q => ∃ b δ F ds Po, Wf b F H ∧ Rs K b δ σ F H ∧ Reps K F ds vs ∧ w ds δ Po ∧ ∀ δ', Po δ' → ∀ σ', Only ts σ σ' → Rs K b δ' σ' F H → Q σ' H
theorem pg_imp {t t' : TG} (h : PG X tg t) (i : ∀ v σ H Q, t' v σ H Q → t v σ H Q) : PG X tg t' := ⟨fun pins s σ H v u Q I r q => h.run pins s σ H v u Q I r (i _ _ _ _ q)⟩
theorem pgs_imp {t t' : TGs} (h : PGs X es t) (i : ∀ v σ H Q, t' v σ H Q → t v σ H Q) : PGs X es t' := ⟨fun pins s σ H v u Q I r q => h.run pins s σ H v u Q I r (i _ _ _ _ q)⟩
def wgName (i : Nat) : Wg := fun d δ Q => Q (δ.set i (.v d))
theorem xg_name (i : Nat) (hN : X.N.Nodup) (hi : X.N[i]? = some x := by rfl) (hx : Loc X.env.scope x := by first | exact Or.inl rfl | exact Or.inr rfl) (hf : X.fn x = true ∨ X.env.scope.names.lookup x = some .local := by first | exact .inl rfl | exact .inr rfl | assumption) : PG X (.Name x pos) (TrG K [i] (wgName i)) := pg_imp (pg_name hN hi hx hf) fun v σ H Q h => by
  obtain ⟨b, δ, F, d, Po, wf, r, rv, q, k⟩ := h
  exact k _ q _ ⟨List.length_set, fun j hj => List.getElem?_set_ne (fun z => hj (by rw [z]; exact List.mem_singleton.mpr rfl))⟩ (r.setV rv)
def wgNil : Wgs := fun ds δ Q => ds = [] ∧ Q δ
def wgCons (u : Wg) (w : Wgs) : Wgs := fun ds δ Q => ∃ d r, ds = d :: r ∧ u d δ fun δ1 => w r δ1 Q
theorem xgs_nil : PGs X [] (TrGs K [] wgNil) := pgs_imp pgs_nil fun v σ H Q h => by
  obtain ⟨b, δ, F, ds, Po, wf, r, rv, ⟨rfl, q⟩, k⟩ := h
  exact ⟨rv, k _ q σ ⟨rfl, fun _ _ => rfl⟩ r⟩
theorem xgs_cons {u : Wg} {w : Wgs} {ts us : List Nat} (h1 : PG X e (TrG K ts u)) (h2 : PGs X es (TrGs K us w)) (hs : (assignEach (e :: es) X.env).map (·.2) = assign e X.env :: (assignEach es X.env).map (·.2) := by rfl) : PGs X (e :: es) (TrGs K (ts ++ us) (wgCons u w)) := pgs_imp (pgs_cons h1 h2 hs) fun v σ H Q h => by
  obtain ⟨b, δ, F, ds, Po, wf, r, rv, ⟨d, rest, rfl, q⟩, k⟩ := h
  obtain ⟨v1, vr, rfl, r1, r2⟩ := rv
  exact ⟨v1, vr, rfl, b, δ, F, d, _, wf, r, r1, q, fun δ1 q1 σ1 o1 rs1 => ⟨b, δ1, F, rest, _, wf, rs1, r2, q1, fun δ2 q2 σ2 o2 rs2 => k _ q2 σ2 ⟨o2.1.trans o1.1, fun j hj => (o2.2 j fun z => hj (List.mem_append_right _ z)).trans (o1.2 j fun z => hj (List.mem_append_left _ z))⟩ rs2⟩⟩
def wgTup (n : Nat) (w : Wgs) : Wg := fun d δ Q => ∃ ds, d = .tup ds ∧ ds.length = n ∧ w ds δ Q
theorem xg_tup {w : Wgs} {n k0 : Nat} {ts : List Nat} (hc : X.calm = true) (h : PGs X es (TrGs X.K ts w)) (hn : (assignEach es X.env).length = n := by rfl) (hst : (assignEach es X.env).findIdx? (·.1) = none := by rfl) : PG X (.Tuple es k0 pos) (TrG X.K ts (wgTup n w)) := pg_imp (pg_tup hc h hn hst) fun v σ H Q h => by
  obtain ⟨b, δ, F, d, Po, wf, r, rv, ⟨ds, rfl, hl, q⟩, k⟩ := h
  obtain ⟨a, vs, rfl, h1, h2⟩ := rv
  exact ⟨a, vs, rfl, seqT wf.fh h1, by rw [h2.length]; exact hl, b, δ, F, ds, _, wf, r, h2, q, k⟩
/-- a, b = e -/
def wAsg (u : Wt) (w : Wg) : Ws := fun δ E => u δ (fun d δ1 => w d δ1 E.nx) E.xx
theorem s_asg {u : Wt} {w : Wg} {ts : List Nat} (he : PE X e (Tr K W u)) (hg : PG X tg (TrG K ts w)) (hs : swapsWithSole [tg] e pos.line X.env = pure false := by rfl) (hw : swappedStores [tg] e X.env = pure none := by rfl)
    (h1 : (assignEach [tg] X.env).map (·.2) = [assign tg X.env] := by rfl) : PS X (.Assign [tg] e pos) (TrS K W (wAsg u w)) := ps_imp (ps_asg he hg hs hw h1) fun Dn σ H h => by
  obtain ⟨b, δ, F, E, wf, r, q, k1, k2, k3, k4, k5⟩ := h
  exact ⟨b, δ, F, _, _, wf, r, q, fun d δ1 q1 v F1 H1 wf1 s1 r1 rx => ⟨b, δ1, F1, d, _, wf1, r1, rx, q1, fun δ2 q2 σ2 _ r2 => k1 _ q2 σ2 F1 H1 wf1 s1 r2⟩, k5_of k5⟩
/-- a, b = e, e', two names -/
def wPar (i j : Nat) (u : Wa) : Ws := fun δ E => u δ (fun as δ1 => ∃ d d', trees as = some [d, d'] ∧ E.nx ((δ1.set i (.v d)).set j (.v d'))) E.xx
theorem s_par {i j : Nat} {x y : Str} {u : Wa} {px py pt : Pos} {kt k2 pt2} (hc : X.calm = true) (hN : X.N.Nodup) (ha : PA X [a, b] (TrA K W u)) (hi : X.N[i]? = some x := by rfl) (hj : X.N[j]? = some y := by rfl) (hij : i ≠ j := by decide)
    (hx : X.env.scope.names.lookup x = some .local := by rfl) (hy : X.env.scope.names.lookup y = some .local := by rfl)
    (hw : swappedStores [.Tuple [.Name x px, .Name y py] kt pt] (.Tuple [a, b] k2 pt2) X.env = pure (some [x, y]) := by rfl)
    (hs : swapsWithSole [.Tuple [.Name x px, .Name y py] kt pt] (.Tuple [a, b] k2 pt2) pos.line X.env = pure false := by rfl) :
    PS X (.Assign [.Tuple [.Name x px, .Name y py] kt pt] (.Tuple [a, b] k2 pt2) pos) (TrS K W (wPar i j u)) := ps_imp (ps_par hc hN hi hj hij hx hy ha hw hs) fun Dn σ H h => by
  obtain ⟨b, δ, F, E, wf, r, q, k1, k2, k3, k4, k5⟩ := h
  refine ⟨b, δ, F, _, _, wf, r, q, fun as δ1 q1 vs F1 H1 wf1 s1 r1 ra => ?_, k5_of k5⟩
  obtain ⟨d, d', hd, q2⟩ := q1
  obtain ⟨v, w, rfl, ra1, ra2⟩ := reps2 (reps_of ra hd)
  exact ⟨v, w, rfl, k1 _ q2 _ F1 H1 wf1 s1 ((r1.setV ra1).setV ra2)⟩

/-! ### what a for walks -/
def ItD (K : PySem.W.Frag) (J : It) (items : List D) (F : Hp) : Prop := ∀ F' H', Same F F' → Same F' H' → (J.stop items.length H') ∧ ∀ i d, items[i]? = some d → J.go i H' ∧ ∀ y H'', J.yld i H' y H'' → ∃ F'', Ext F' H' F'' H'' ∧ Rep K F'' d y
abbrev Wi := List S → (List D → List S → Prop) → (Er → List S → Prop) → Prop
def TrI (K : PySem.W.Frag) (W : WX) (w : Wi) : TI := fun σ H R => ∃ b δ F Po Px, Wf b F H ∧ Rs K b δ σ F H ∧ w δ Po Px ∧
  (∀ items δ', Po items δ' → ∀ J F' H', Wf b F' H' → Same F F' → Rs K b δ' σ F' H' → ItD K J items F' → R J H') ∧ ∀ er δ', Px er δ' → Xp K W b F σ er δ'
theorem pi_imp {w w' : TI} (h : PI X tg e w) (i : ∀ σ H R, w' σ H R → w σ H R) : PI X tg e w' := ⟨fun pins s σ H R I q => h.run pins s σ H R I (i _ _ _ q)⟩
def wItL (w : Wt) : Wi := fun δ Q Y => w δ (fun d δ1 => ∃ xs, d = .lst xs ∧ Q xs δ1) Y
def wItT (w : Wt) : Wi := fun δ Q Y => w δ (fun d δ1 => ∃ xs, d = .tup xs ∧ Q xs δ1) Y
theorem itD_lst {F : Hp} {l : Addr} {vs : List V} {xs : List D} (h : SqL K F l vs) (r : Reps K F xs vs) : ItD K (Itl K l) xs F := fun F' H' s1 s2 => by
  have hl := r.length
  have q : SqL K H' l vs := Same.seq s2 (Same.seq s1 h)
  refine ⟨⟨vs, q, by omega⟩, fun i d hd => ?_⟩
  obtain ⟨v, hv, rv⟩ := r.get hd
  refine ⟨⟨vs, v, q, hv⟩, fun y H'' hy => ?_⟩
  obtain ⟨e, z⟩ := hy
  subst e
  have := z vs q
  rw [hv] at this
  cases this
  exact ⟨F', Ext.refl s2, rv.mono s1⟩
theorem itD_tup {F : Hp} {l : Addr} {vs : List V} {xs : List D} (h : SqT K F l vs) (r : Reps K F xs vs) : ItD K (Itt K l) xs F := fun F' H' s1 s2 => by
  have hl := r.length
  have q : SqT K H' l vs := seqT s2 (seqT s1 h)
  refine ⟨⟨vs, q, by omega⟩, fun i d hd => ?_⟩
  obtain ⟨v, hv, rv⟩ := r.get hd
  refine ⟨⟨vs, v, q, hv⟩, fun y H'' hy => ?_⟩
  obtain ⟨e, z⟩ := hy
  subst e
  have := z vs q
  rw [hv] at this
  cases this
  exact ⟨F', Ext.refl s2, rv.mono s1⟩
theorem xi_lst {w : Wt} (h : PE X e (Tr X.K W w)) : PI X tg e (TrI X.K W (wItL w)) := pi_imp (pi_list h) fun σ H R h => by
  obtain ⟨b, δ, F, Po, Px, wf, r, q, k, kx⟩ := h
  refine ⟨b, δ, F, _, _, wf, r, q, fun d δ1 q1 v F1 H1 wf1 s1 r1 rx => ?_, kx⟩
  obtain ⟨xs, rfl, q2⟩ := q1
  obtain ⟨l, vs, rfl, h1, h2⟩ := rx
  exact ⟨l, rfl, ⟨vs, Same.seq wf1.fh h1⟩, k xs δ1 q2 _ F1 H1 wf1 s1 r1 (itD_lst h1 h2)⟩
theorem xi_tup {w : Wt} (h : PE X e (Tr X.K W w)) : PI X tg e (TrI X.K W (wItT w)) := pi_imp (pi_tup h) fun σ H R h => by
  obtain ⟨b, δ, F, Po, Px, wf, r, q, k, kx⟩ := h
  refine ⟨b, δ, F, _, _, wf, r, q, fun d δ1 q1 v F1 H1 wf1 s1 r1 rx => ?_, kx⟩
  obtain ⟨xs, rfl, q2⟩ := q1
  obtain ⟨l, vs, rfl, h1, h2⟩ := rx
  exact ⟨l, rfl, ⟨vs, seqT wf1.fh h1⟩, k xs δ1 q2 _ F1 H1 wf1 s1 r1 (itD_tup h1 h2)⟩
/-- a name, list or tuple -/
def wItV (i : Nat) : Wi := fun δ Q _ => ∃ d xs, δ[i]? = some (.v d) ∧ itemsOf d = some xs ∧ Q xs δ
theorem xi_var (i : Nat) {x : Str} (hN : X.N[i]? = some x := by rfl) (hv : Vis X.env.scope x := by first | exact Or.inl rfl | exact Or.inr (Or.inl rfl) | exact Or.inr (Or.inr rfl)) (hd : (x == ("__debug__" : Str)) = false := by decide)
    (hcd : (x == ("__classdict__" : Str)) = false := by decide) : PI X tg (.Name x pos) (TrI X.K W (wItV i)) := ⟨fun pins s σ H R I h => by
  obtain ⟨b, δ, F, Po, Px, wf, r, ⟨d, xs, hi, hx, q⟩, k, kx⟩ := h
  cases d with
  | lst ys =>
    cases hx
    exact (xi_lst (tg := tg) (W := W) (x_var i (pos := pos) hN hv hd hcd)).run pins s σ H R I ⟨b, δ, F, Po, Px, wf, r, ⟨_, hi, xs, rfl, q⟩, k, kx⟩
  | tup ys =>
    cases hx
    exact (xi_tup (tg := tg) (W := W) (x_var i (pos := pos) hN hv hd hcd)).run pins s σ H R I ⟨b, δ, F, Po, Px, wf, r, ⟨_, hi, xs, rfl, q⟩, k, kx⟩
  | _ => cases hx⟩
def rangeD (lo : Int) (n : Nat) : List D := (List.range n).map fun (i : Nat) => D.int (lo + (i : Int))
theorem itD_rng {F : Hp} {lo : Int} {n : Nat} : ItD K (Itr lo n) (rangeD lo n) F := fun F' H' s1 s2 => by
  have hl : (rangeD lo n).length = n := by unfold rangeD; rw [List.length_map, List.length_range]
  refine ⟨by rw [hl]; exact Nat.le_refl _, fun i d hd => ?_⟩
  have hi : i < n := by
    have := (List.getElem?_eq_some_iff.mp hd).1
    rwa [hl] at this
  refine ⟨hi, fun y H'' hy => ?_⟩
  obtain ⟨e, z⟩ := hy
  subst e z
  have : (rangeD lo n)[i]? = some (.int (lo + (i : Int))) := by
    unfold rangeD
    rw [List.getElem?_map, List.getElem?_range hi]
    rfl
  rw [this] at hd
  cases hd
  exact ⟨F', Ext.refl s2, rfl⟩
def wRng1 (u : Wa) : Wi := fun δ Q Y => u δ (fun as δ1 => ∃ j, trees as = some [.int j] ∧ -(2 ^ 62) ≤ j ∧ j < 2 ^ 62 ∧ Q (rangeD 0 j.toNat) δ1) Y
theorem xi_rng1 {u : Wa} (ha : PA X [a] (TrA X.K W u)) (hm : X.mg "range" = none) (hg : Gl X "range" := by rfl) (hs : starEach [a] X.env = [(false, eval a X.env)] := by rfl) {p1 : Pos} : PI X tg (.Call (.Name "range" p1) [a] [] pos) (TrI X.K W (wRng1 u)) := pi_imp (pi_range1 hg hm ha (hs := hs)) fun σ H R h => by
  obtain ⟨b, δ, F, Po, Px, wf, r, q, k, kx⟩ := h
  refine ⟨b, δ, F, _, _, wf, r, q, fun as δ1 q1 vs F1 H1 wf1 s1 r1 ra => ?_, kx⟩
  obtain ⟨j, hj, h1, h2, q2⟩ := q1
  obtain ⟨v, rfl, rv⟩ := reps1 (reps_of ra hj)
  exact ⟨j, by rw [show v = _ from rv], h1, h2, k _ δ1 q2 _ F1 H1 wf1 s1 r1 itD_rng⟩

/-! ### for, while -/
def loopD (g : Wg) (w : Ws) (E : DE) : List D → List S → Prop
  | [], δ => E.nx δ
  | y :: ys, δ => g y δ fun δ1 => w δ1 { E with nx := loopD g w E ys, ct := loopD g w E ys, bk := E.nx }
def wFor (wi : Wi) (g : Wg) (w : Ws) : Ws := fun δ E => wi δ (fun items δ1 => loopD g w E items δ1) E.xx
theorem s_for {wi : Wi} {g : Wg} {ts : List Nat} {w : Ws} {iter : Expr} {body : List Stmt} (hp : PassesOwn (model X.prog X.w) X.A X.env X.xe) (hc : X.calm = true) (hi : PI X tg iter (TrI K W wi)) (hg : PG X tg (TrG K ts g)) (hb : PSs X body (TrS K W w))
    (hs : ∀ x, foldedSetIterable iter X.env x = pure x := by intro _; rfl) : PS X (.For tg iter body [] pos) (TrS K W (wFor wi g w)) := ps_imp (ps_for hp hc hi hg hb hs) fun Dn σ H h => by
  obtain ⟨b, δ, F, E, wf, r, q, k1, k2, k3, k4, k5⟩ := h
  refine ⟨b, δ, F, _, _, wf, r, q, fun items δ1 q1 J F1 H1 wf1 s1 r1 it => ?_, k5_of k5⟩
  refine ⟨fun i m σ' H' => ∃ δ' F', Wf b F' H' ∧ Same F1 F' ∧ Rs K b δ' σ' F' H' ∧ i ≤ items.length ∧ m = items.length - i ∧ loopD g w E (items.drop i) δ', ⟨_, δ1, F1, wf1, Same.refl _, r1, Nat.zero_le _, rfl, q1⟩, ?_⟩
  rintro i m σ' H' ⟨δ', F', wf', s', r', hi', rfl, lp⟩
  obtain ⟨st, go⟩ := it F' H' s' wf'.fh
  by_cases hlt : i < items.length
  · refine .inr ?_
    have hd : items[i]? = some items[i] := List.getElem?_eq_getElem hlt
    obtain ⟨g1, g2⟩ := go i _ hd
    refine ⟨g1, fun σ2 H2 => ∃ δ2 F2, Wf b F2 H2 ∧ Same F1 F2 ∧ Rs K b δ2 σ2 F2 H2 ∧ loopD g w E (items.drop (i + 1)) δ2, fun σ2 H2 ⟨δ2, F2, a1, a2, a3, a4⟩ => ⟨items.length - (i + 1), by omega, δ2, F2, a1, a2, a3, hlt, rfl, a4⟩, fun y H'' hy => ?_⟩
    obtain ⟨F'', ex, ry⟩ := g2 y H'' hy
    rw [List.drop_eq_getElem_cons hlt] at lp
    refine ⟨b, δ', F'', _, _, wf'.ext ex, r'.ext ex, ry, lp, fun δ2 q2 σ2 _ r2 => ?_⟩
    have s2 : Same F F'' := s1.trans (s'.trans ex.ff)
    exact ⟨b, δ2, F'', _, wf'.ext ex, r2, q2, fun δ3 q3 σ3 F3 H3 wf3 s3 r3 => ⟨δ3, F3, wf3, (s'.trans ex.ff).trans s3, r3, q3⟩, fun δ3 q3 σ3 F3 H3 wf3 s3 r3 => k1 δ3 q3 σ3 F3 H3 wf3 (s2.trans s3) r3, fun δ3 q3 σ3 F3 H3 wf3 s3 r3 => ⟨δ3, F3, wf3, (s'.trans ex.ff).trans s3, r3, q3⟩,
      fun rv δ3 q3 v F3 H3 wf3 s3 => k4 rv δ3 q3 v F3 H3 wf3 (s2.trans s3), fun er δ3 q3 σ3 F3 H3 wf3 s3 r3 => k5 er δ3 q3 σ3 F3 H3 wf3 (s2.trans s3) r3⟩
  · have e : i = items.length := by omega
    subst e
    rw [List.drop_length] at lp
    exact .inl ⟨st, k1 δ' lp σ' F' H' wf' (s1.trans s') r'⟩
def wWhile (t : Wb) (w : Ws) : Ws := fun δ E => ∃ I : Nat → List S → Prop, (∃ m, I m δ) ∧ ∀ m δ1, I m δ1 → t δ1 (fun c δ2 => if c = true then w δ2 { E with nx := fun δ3 => ∃ m', m' < m ∧ I m' δ3, ct := fun δ3 => ∃ m', m' < m ∧ I m' δ3, bk := E.nx } else E.nx δ2) E.xx
theorem s_while {t : Wb} {w : Ws} {body : List Stmt} (hp : PassesOwn (model X.prog X.w) X.A X.env X.xe) (hc : PT X c (TrT K W t)) (hb : PSs X body (TrS K W w)) : PS X (.While c body [] pos) (TrS K W (wWhile t w)) := ps_imp (ps_while hp hc hb) fun Dn σ H h => by
  obtain ⟨b, δ, F, E, wf, r, ⟨I, ⟨m0, i0⟩, turn⟩, k1, k2, k3, k4, k5⟩ := h
  refine ⟨fun m σ' H' => ∃ δ' F', Wf b F' H' ∧ Same F F' ∧ Rs K b δ' σ' F' H' ∧ I m δ', ⟨m0, δ, F, wf, Same.refl _, r, i0⟩, ?_⟩
  rintro m σ' H' ⟨δ', F', wf', s', r', i'⟩
  refine ⟨b, δ', F', _, _, wf', r', turn m δ' i', fun c δ2 q2 F2 H2 wf2 s2 r2 => ?_, fun er δ2 q2 => ?_⟩
  · have s3 := s'.trans s2
    cases c with
    | true =>
      rw [if_pos rfl] at q2
      refine iteT ⟨fun σ3 H3 => ∃ m', m' < m ∧ ∃ δ3 F3, Wf b F3 H3 ∧ Same F F3 ∧ Rs K b δ3 σ3 F3 H3 ∧ I m' δ3, fun σ3 H3 z => z, ?_⟩
      exact ⟨b, δ2, F2, _, wf2, r2, q2, fun δ3 ⟨m', hm, q3⟩ σ3 F3 H3 wf3 s4 r3 => ⟨m', hm, δ3, F3, wf3, s3.trans s4, r3, q3⟩, fun δ3 q3 σ3 F3 H3 wf3 s4 r3 => k1 δ3 q3 σ3 F3 H3 wf3 (s3.trans s4) r3, fun δ3 ⟨m', hm, q3⟩ σ3 F3 H3 wf3 s4 r3 => ⟨m', hm, δ3, F3, wf3, s3.trans s4, r3, q3⟩,
        fun rv δ3 q3 v F3 H3 wf3 s4 => k4 rv δ3 q3 v F3 H3 wf3 (s3.trans s4), fun er δ3 q3 σ3 F3 H3 wf3 s4 r3 => k5 er δ3 q3 σ3 F3 H3 wf3 (s3.trans s4) r3⟩
    | false =>
      rw [if_neg Bool.false_ne_true] at q2
      exact iteF (k1 δ2 q2 σ' F2 H2 wf2 s3 r2)
  · exact Xp.back s' (k5_of k5 er δ2 q2) 
end
end L3

set_option Elab.async false
set_option linter.all false
set_option maxRecDepth 100000
set_option maxHeartbeats 1000000
namespace L3
open PySem L2
section
variable {X : Cx} {K : PySem.W.Frag} {W : WX} {e a b c o tg : Expr} {es : List Expr} {t : TE} {pos : Pos}
variable {k n : Nat} {f C g pp : Addr} {fd : FuncData} {ps : List Str} {ff : Fn} {dvs : List V} {dvl : List Value} {dd : List D} {x m : Str} {p apos : Pos}

/-! ### a call that is handed what a slot owns -/
def S.flag (k : Bool) : S → S
  | .ol _ xs => .ol k xs
  | .oo _ c ns xs => .oo k c ns xs
  | s => s
theorem S.flag_owned {k : Bool} {s : S} (h : s.owned = true) : (s.flag k).owned = true := by cases s <;> first | rfl | cases h
theorem S.flag_inp {k : Bool} {s : S} (h : s.owned = true) : (s.flag k).inp = k := by cases s <;> first | rfl | cases h
theorem Own.flag {F H : Hp} {k : Bool} {s : S} {p : Addr} (h : Own K F H s p) : Own K F H (s.flag k) p := by
  obtain ⟨h1, h2⟩ := h
  refine ⟨h1, ?_⟩
  cases s <;> exact h2
def wCallB (j : Nat) (f : Fn) (dd : List D) (u : Wa) : Wt := fun δ Q Y => (∃ s : S, δ[j]? = some s ∧ s.owned = true) ∧ u δ (fun as δ1 => ∃ ds s, trees as = some ds ∧ δ1[j]? = some s ∧ s.owned = true ∧
  f (s.flag true :: (ds ++ dd).map S.v) (fun r fin => ∃ s' : S, fin[0]? = some s' ∧ s'.owned = true ∧ s'.inp = true ∧ Q (rvD r) (δ1.set j (s'.flag s.inp))) (fun _ _ => False)) Y
theorem slot_val {F H : Hp} {bb : B} {i : Nat} {y : Option V} {s : S} (h : SlotOk K bb F H i y s) (o : s.owned = true) : ∃ p, y = some (.ref p) ∧ Own K F H s p ∧ if s.inp = true then bb.P i = some p else bb.H0 p = none := by
  cases s with
  | no => cases o
  | v d => cases o
  | ex _ _ _ _ _ => cases o
  | ol k xs => exact h
  | oo k c ns xs => exact h
theorem slot_of {F H : Hp} {bb : B} {i : Nat} {y : Option V} {s : S} (o : s.owned = true) (h : ∃ p, y = some (.ref p) ∧ Own K F H s p ∧ if s.inp = true then bb.P i = some p else bb.H0 p = none) : SlotOk K bb F H i y s := by
  cases s with
  | no => cases o
  | v d => cases o
  | ex _ _ _ _ _ => cases o
  | ol k xs => exact h
  | oo k c ns xs => exact h
theorem slot_mono {F H F' H' : Hp} {bb : B} {i : Nat} {y : Option V} {s : S} (h : SlotOk K bb F H i y s) (sF : Same F F') (ho : s.owned = true → ∀ p, y = some (.ref p) → Own K F H s p → Own K F' H' s p) : SlotOk K bb F' H' i y s := by
  cases s with
  | no => trivial
  | v d => obtain ⟨v, h1, h2⟩ := h; exact ⟨v, h1, h2.mono sF⟩
  | ex a c d ns xs => obtain ⟨h1, h2⟩ := h; exact ⟨h1, fun dd hd => let ⟨vs, a1, a2⟩ := h2 dd hd; ⟨vs, sF _ _ a1, a2.mono sF⟩⟩
  | ol k xs => obtain ⟨p, h1, h2, h3⟩ := h; exact ⟨p, h1, ho rfl p h1 h2, h3⟩
  | oo k c ns xs => obtain ⟨p, h1, h2, h3⟩ := h; exact ⟨p, h1, ho rfl p h1 h2, h3⟩
theorem Own.keep {F H F' H' : Hp} {s : S} {p : Addr} (h : Own K F H s p) (sF : Same F F') (nF : F' p = none) (kH : ∀ o, H p = some o → H' p = some o) : Own K F' H' s p := by
  obtain ⟨h1, h2⟩ := h
  refine ⟨nF, ?_⟩
  cases s with
  | no => exact h2.elim
  | v d => exact h2.elim
  | ex _ _ _ _ _ => exact h2.elim
  | ol k xs => obtain ⟨vs, a1, a2⟩ := h2; exact ⟨vs, kH _ a1, a2.mono sF⟩
  | oo k c ns xs => obtain ⟨dx, vs, a1, a3, a2⟩ := h2; exact ⟨dx, vs, kH _ a1, a3, a2.mono sF⟩
theorem Own.at_ {F H : Hp} {s : S} {p : Addr} (h : Own K F H s p) : ∃ o, H p = some o := by
  obtain ⟨h1, h2⟩ := h
  cases s with
  | no => exact h2.elim
  | v d => exact h2.elim
  | ex _ _ _ _ _ => exact h2.elim
  | ol k xs => obtain ⟨vs, a1, a2⟩ := h2; exact ⟨_, a1⟩
  | oo k c ns xs => obtain ⟨dx, vs, a1, a3, a2⟩ := h2; exact ⟨_, a1⟩
/-- behind such a call -/
theorem callB_ok {bb : B} {δ : List S} {σ : L2.St} {F H F' H' : Hp} {j : Nat} {s s' : S} {p : Addr} {P : Nat → Option Addr} (wf : Wf bb F H) (r : Rs K bb δ σ F H) (hj : δ[j]? = some s) (hs : s.owned = true) (hp : σ[j]? = some (some (.ref p))) (hP : P = fun i => if i = 0 then some p else none)
    (w : Wf ⟨F, H, P⟩ F' H') (hs' : s'.owned = true) (own : Own K F' H' s' p) : Wf bb F' H' ∧ Rs K bb (δ.set j (s'.flag s.inp)) σ F' H' := by
  obtain ⟨q, hq, how, hb⟩ := r.own hj hs
  have e : q = p := by rw [hp] at hq; cases hq; rfl
  subst e
  obtain ⟨oq, hoq⟩ := how.at_
  have keep : ∀ a u, a ≠ q → H a = some u → H' a = some u := fun a u ne e => w.keep a u (fun i hi => by
    subst hP
    have hi' : (if i = 0 then some q else none) = some a := hi
    by_cases z : i = 0
    · rw [if_pos z] at hi'; cases hi'; exact ne rfl
    · rw [if_neg z] at hi'; cases hi') e
  refine ⟨⟨w.fh, wf.ff.trans w.ff, fun a u hn e => keep a u (fun z => ?_) (wf.keep a u hn e), fun a u e => ?_, fun a e => wf.live a (w.live a e), wf.pn⟩, by rw [List.length_set]; exact r.len, fun i t y h1 h2 => ?_, fun i l t u pp hil h1 h2 o1 o2 h3 h4 => ?_⟩
  · subst z
    cases hk : s.inp with
    | true => rw [hk, if_pos rfl] at hb; exact hn j hb
    | false => rw [hk, if_neg Bool.false_ne_true] at hb; rw [e] at hb; cases hb
  · rcases w.new a u e with z | z
    · exact wf.new a u z
    · exact .inr (wf.live a z)
  · have lt : j < δ.length := (List.getElem?_eq_some_iff.mp hj).1
    by_cases hij : j = i
    · subst hij
      rw [List.getElem?_set_self lt] at h1
      cases h1
      rw [hp] at h2
      cases h2
      exact slot_of (S.flag_owned hs') ⟨q, rfl, own.flag, by rw [S.flag_inp hs']; exact hb⟩
    · rw [List.getElem?_set_ne hij] at h1
      refine slot_mono (r.sl i t y h1 h2) w.ff fun o u hu w0 => ?_
      subst hu
      have ne : u ≠ q := fun z => by subst z; exact r.sep j i s t u hij hj h1 hs o hp h2
      obtain ⟨ou, hou⟩ := w0.at_
      refine w0.keep w.ff ?_ fun o' ho' => keep u o' ne ho'
      cases z : F' u with
      | none => rfl
      | some v =>
        rcases w.new u v z with z' | z'
        · have z2 : F u = some v := z'
          rw [w0.1] at z2; cases z2
        · have z2 : H u = none := z'
          rw [z2] at hou; cases hou
  · have back : ∀ {i : Nat} {t : S}, (δ.set j (s'.flag s.inp))[i]? = some t → t.owned = true → ∃ t' : S, δ[i]? = some t' ∧ t'.owned = true := fun {i t} h o => by
      by_cases hij : j = i
      · subst hij; exact ⟨s, hj, hs⟩
      · rw [List.getElem?_set_ne hij] at h; exact ⟨t, h, o⟩
    obtain ⟨t', h1', o1'⟩ := back h1 o1
    obtain ⟨u', h2', o2'⟩ := back h2 o2
    exact r.sep i l t' u' pp hil h1' h2' o1' o2' h3 h4
theorem tr_callB {j : Nat} {f : Fn} {dd : List D} {dvs : List V} {n : Nat} {u : Wa} {σ : L2.St} {H : Hp} {Q : VK} (hd : ∀ F, Reps K F dd dvs) (hf : ∀ as R Y, f as R Y → as.length = n) (h : Tr K W (wCallB j f dd u) σ H Q) : tCallSD (spF K n f) dvs (WE W) (tCons (tVar j) (TrA K W u)) σ H Q := by
  obtain ⟨b, δ, F, Po, Px, wf, r, ⟨⟨s0, hs0, ho0⟩, q⟩, k, kx⟩ := h
  obtain ⟨p, hp, _, _⟩ := r.own hs0 ho0
  refine ⟨_, hp, b, δ, F, _, _, wf, r, q, fun as δ1 q1 vs F1 H1 wf1 s1 r1 ra => ?_, kx⟩
  obtain ⟨ds, s, hds, hj, ho, q2⟩ := q1
  have rr := (reps_of ra hds).append (hd F1)
  have hn : (V.ref p :: (vs ++ dvs)).length = n := by
    have := hf _ _ _ q2
    rw [List.length_cons, List.length_map] at this
    rw [List.length_cons, rr.length, this]
  obtain ⟨p', hp', how, hb⟩ := r1.own hj ho
  have e : p' = p := by rw [hp] at hp'; cases hp'; rfl
  subst e
  obtain ⟨op, hop⟩ := how.at_
  let P : Nat → Option Addr := fun i => if i = 0 then some p' else none
  have ra2 : Rs K ⟨F1, H1, P⟩ (s.flag true :: (ds ++ dd).map S.v) ((V.ref p' :: (vs ++ dvs)).map some) F1 H1 := by
    have r0 : Rs K ⟨F1, H1, P⟩ ((ds ++ dd).map S.v) ((vs ++ dvs).map some) F1 H1 := rs_args rr
    have only : ∀ {i : Nat} {t : S}, (s.flag true :: (ds ++ dd).map S.v)[i + 1]? = some t → ∃ d, t = .v d := fun {i t} h => by
      have h1' : ((ds ++ dd).map S.v)[i]? = some t := h
      rw [List.getElem?_map] at h1'
      cases q : (ds ++ dd)[i]? with
      | none => rw [q] at h1'; cases h1'
      | some d => rw [q] at h1'; cases h1'; exact ⟨d, rfl⟩
    refine ⟨by rw [List.map_cons, List.length_cons, List.length_cons, r0.len], fun i t y h1 h2 => ?_, fun i l t u q hil h1 h2 o1 o2 h3 h4 => ?_⟩
    · cases i with
      | zero =>
        cases h1; cases h2
        exact slot_of (S.flag_owned ho) ⟨p', rfl, how.flag, by rw [S.flag_inp ho]; rfl⟩
      | succ i =>
        have z := r0.sl i t y h1 h2
        obtain ⟨d, rfl⟩ := only h1
        exact z
    · have z : ∀ {i : Nat} {t : S}, (s.flag true :: (ds ++ dd).map S.v)[i]? = some t → t.owned = true → i = 0 := fun {i t} h o => by
        cases i with
        | zero => rfl
        | succ i => obtain ⟨d, rfl⟩ := only h; cases o
      exact hil ((z h1 o1).trans (z h2 o2).symm)
  refine ⟨F1, P, _, _, _, hn, wf1.fh, fun i a e => ?_, ra2, q2, fun rv fin q3 v F' H' w fin' ok => ?_, fun er fin z => z.elim⟩
  · by_cases z : i = 0
    · subst z; cases e; exact ⟨_, hop⟩
    · have : P i = none := if_neg z
      rw [this] at e; cases e
  · obtain ⟨s', h0, ho', hi', q4⟩ := q3
    have own := fin' 0 s' p' h0 rfl hi'
    obtain ⟨w2, r2⟩ := callB_ok (P := P) wf1 r1 hj ho hp rfl w ho' own
    cases rv with
    | d d => exact k _ _ q4 v F' H' w2 (s1.trans w.ff) r2 ok
    | l xs =>
      obtain ⟨p2, rfl, ho2, h02⟩ := ok
      have n2 : H1 p2 = none := h02
      have na : NewAt K b (δ1.set j (s'.flag s.inp)) σ F' H' xs p2 := ⟨ho2, wf1.live p2 n2, fun l t hl hto e => by
        have back : ∃ t' : S, δ1[l]? = some t' ∧ t'.owned = true := by
          by_cases hjl : j = l
          · subst hjl; exact ⟨s, hj, ho⟩
          · rw [List.getElem?_set_ne hjl] at hl; exact ⟨t, hl, hto⟩
        obtain ⟨t', h1', o1'⟩ := back
        exact r1.notNew n2 l t' h1' o1' e⟩
      obtain ⟨F2, a1, a2, a3, a4⟩ := freeze w2 r2 na
      exact k _ _ q4 _ F2 H' a1 ((s1.trans w.ff).trans a2) a3 a4
theorem x_callB' (j : Nat) {xb : Str} {pb : Pos} {u : Wa} (F : FnG X.prog X.w X.K X.mg X.base (L2.CX X.prog X.w) k f fd ps (spF X.K n ff)) (hr : RmG k X.A) (hm : X.mg x = some (.ref f)) (hk : PySem.W.keepIn X.K (.ref f) = true) (hb : Binds X.K fd ps dvl) (hd : Vals dvs dvl) (hdd : ∀ F, Reps X.K F dd dvs)
    (tk : Takes X W) (hf : ∀ as R Y, ff as R Y → as.length = n) (ha : PA X es (TrA X.K W u)) (hN : X.N[j]? = some xb := by rfl) (hv : Vis X.env.scope xb := by first | exact Or.inl rfl | exact Or.inr (Or.inl rfl) | exact Or.inr (Or.inr rfl)) (hd1 : (xb == ("__debug__" : Str)) = false := by decide)
    (hcd : (xb == ("__classdict__" : Str)) = false := by decide) (hg : Gl X x := by rfl) (hdb : (x == ("__debug__" : Str)) = false := by decide) (he : starEach (.Name xb pb :: es) X.env = (false, eval (.Name xb pb) X.env) :: starEach es X.env := by rfl)
    (hpl : (backTo pos (starEach es X.env)).any (·.1) = false := by rfl) : PE X (.Call (.Name x p) (.Name xb pb :: es) [] pos) (Tr X.K W (wCallB j ff dd u)) :=
  pe_imp (pe_callG F hr hg hm hk hb hd (fun σ => passAt tk σ) (pa_cons (pe_var hN hv hd1 hcd) ha he) hdb he hpl) fun _ _ _ => tr_callB hdd hf
end
end L3

set_option Elab.async false
set_option linter.all false
set_option maxRecDepth 100000
set_option maxHeartbeats 1000000
namespace L3
open PySem L2
section
variable {X : Cx} {K : PySem.W.Frag} {W : WX} {e a b c o tg : Expr} {es : List Expr} {t : TE} {pos : Pos}
variable {k n : Nat} {f C g pp : Addr} {fd : FuncData} {ps : List Str} {ff : Fn} {dvs : List V} {dvl : List Value} {dd : List D} {x m : Str} {p apos : Pos}

/-! ### list comprehensions -/
theorem wipe_get (σ : L2.St) : ∀ (vs : List Nat) (j : Nat), (wipe σ vs)[j]? = if j ∈ vs then σ[j]?.map fun _ => none else σ[j]?
  | [], j => rfl
  | v :: vs, j => by
    show ((wipe σ vs).set v none)[j]? = _
    by_cases h : v = j
    · subst h
      rw [if_pos List.mem_cons_self]
      by_cases hl : v < List.length σ
      · rw [List.getElem?_set_self (by rw [wipe_length]; exact hl), List.getElem?_eq_getElem hl]; rfl
      · rw [List.getElem?_eq_none (by rw [List.length_set, wipe_length]; omega), List.getElem?_eq_none (by omega)]; rfl
    · rw [List.getElem?_set_ne h, wipe_get σ vs j]
      by_cases h2 : j ∈ vs
      · rw [if_pos h2, if_pos (List.mem_cons_of_mem _ h2)]
      · rw [if_neg h2, if_neg (fun z => by rcases List.mem_cons.mp z with z | z; exact h z.symm; exact h2 z)]
def wipeS (δ : List S) : List Nat → List S
  | [] => δ
  | v :: vs => (wipeS δ vs).set v .no
theorem wipeS_length (δ : List S) : ∀ vs : List Nat, (wipeS δ vs).length = δ.length
  | [] => rfl
  | v :: vs => by unfold wipeS; rw [List.length_set, wipeS_length δ vs]
theorem wipeS_get (δ : List S) : ∀ (vs : List Nat) (j : Nat), (wipeS δ vs)[j]? = if j ∈ vs then δ[j]?.map fun _ => S.no else δ[j]?
  | [], j => rfl
  | v :: vs, j => by
    show ((wipeS δ vs).set v .no)[j]? = _
    by_cases h : v = j
    · subst h
      rw [if_pos List.mem_cons_self]
      by_cases hl : v < δ.length
      · rw [List.getElem?_set_self (by rw [wipeS_length]; exact hl), List.getElem?_eq_getElem hl]; rfl
      · rw [List.getElem?_eq_none (by rw [List.length_set, wipeS_length]; omega), List.getElem?_eq_none (by omega)]; rfl
    · rw [List.getElem?_set_ne h, wipeS_get δ vs j]
      by_cases h2 : j ∈ vs
      · rw [if_pos h2, if_pos (List.mem_cons_of_mem _ h2)]
      · rw [if_neg h2, if_neg (fun z => by rcases List.mem_cons.mp z with z | z; exact h z.symm; exact h2 z)]
theorem Rs.wipe {bb : B} {δ : List S} {σ : L2.St} {F H : Hp} (r : Rs K bb δ σ F H) (vs : List Nat) : Rs K bb (wipeS δ vs) (L2.wipe σ vs) F H := by
  refine ⟨by rw [wipe_length, wipeS_length]; exact r.len, fun i s y h1 h2 => ?_, fun i j s t p hij h1 h2 o1 o2 h3 h4 => ?_⟩
  · rw [wipeS_get] at h1
    rw [wipe_get] at h2
    by_cases h : i ∈ vs
    · rw [if_pos h] at h1
      cases q : δ[i]? with
      | none => rw [q] at h1; cases h1
      | some s' => rw [q] at h1; cases h1; trivial
    · rw [if_neg h] at h1 h2
      exact r.sl i s y h1 h2
  · have un : ∀ {i : Nat} {s : S}, (wipeS δ vs)[i]? = some s → s.owned = true → i ∉ vs ∧ δ[i]? = some s := fun {i s} h o => by
      rw [wipeS_get] at h
      by_cases hi : i ∈ vs
      · rw [if_pos hi] at h
        cases q : δ[i]? with
        | none => rw [q] at h; cases h
        | some s' => rw [q] at h; cases h; cases o
      · rw [if_neg hi] at h; exact ⟨hi, h⟩
    obtain ⟨n1, g1⟩ := un h1 o1
    obtain ⟨n2, g2⟩ := un h2 o2
    rw [wipe_get, if_neg n1] at h3
    rw [wipe_get, if_neg n2] at h4
    exact r.sep i j s t p hij g1 g2 o1 o2 h3 h4
/-- the slots of the block's own names as they were -/
def backS (δ0 : List S) : List Nat → List S → List S
  | [], δ => δ
  | v :: vs, δ => (backS δ0 vs δ).set v (δ0.getD v .no)
theorem backS_length (δ0 δ : List S) : ∀ vs : List Nat, (backS δ0 vs δ).length = δ.length
  | [] => rfl
  | v :: vs => by unfold backS; rw [List.length_set, backS_length δ0 δ vs]
theorem backS_get (δ0 δ : List S) (hl : δ.length = δ0.length) : ∀ (vs : List Nat) (j : Nat), (backS δ0 vs δ)[j]? = if j ∈ vs then δ0[j]? else δ[j]?
  | [], j => rfl
  | v :: vs, j => by
    show ((backS δ0 vs δ).set v (δ0.getD v .no))[j]? = _
    by_cases h : v = j
    · subst h
      rw [if_pos List.mem_cons_self]
      by_cases hv : v < δ0.length
      · rw [List.getElem?_set_self (by rw [backS_length]; omega), List.getD_eq_getElem?_getD, List.getElem?_eq_getElem hv]; rfl
      · rw [List.getElem?_eq_none (by rw [List.length_set, backS_length]; omega), List.getElem?_eq_none (by omega)]
    · rw [List.getElem?_set_ne h, backS_get δ0 δ hl vs j]
      by_cases h2 : j ∈ vs
      · rw [if_pos h2, if_pos (List.mem_cons_of_mem _ h2)]
      · rw [if_neg h2, if_neg (fun z => by rcases List.mem_cons.mp z with z | z; exact h z.symm; exact h2 z)]
theorem Rs.back {bb : B} {δ0 δ : List S} {σ : L2.St} {F0 H0 F H : Hp} (r0 : Rs K bb δ0 σ F0 H0) (s : Same F0 F) {vs : List Nat} (hu : ∀ v ∈ vs, ∀ s : S, δ0[v]? = some s → s.owned = false) (r : Rs K bb δ (L2.wipe σ vs) F H) : Rs K bb (backS δ0 vs δ) σ F H := by
  have hl : δ.length = δ0.length := by rw [← r.len, wipe_length, r0.len]
  refine ⟨by rw [backS_length, hl]; exact r0.len, fun i s' y h1 h2 => ?_, fun i j s' t p hij h1 h2 o1 o2 h3 h4 => ?_⟩
  · rw [backS_get _ _ hl] at h1
    by_cases h : i ∈ vs
    · rw [if_pos h] at h1
      have o := hu i h s' h1
      exact slot_mono (r0.sl i s' y h1 h2) s fun z => by rw [o] at z; cases z
    · rw [if_neg h] at h1
      exact r.sl i s' y h1 (by rw [wipe_get, if_neg h]; exact h2)
  · have un : ∀ {i : Nat} {s' : S}, (backS δ0 vs δ)[i]? = some s' → s'.owned = true → i ∉ vs ∧ δ[i]? = some s' := fun {i s'} h o => by
      rw [backS_get _ _ hl] at h
      by_cases hi : i ∈ vs
      · rw [if_pos hi] at h; rw [hu i hi s' h] at o; cases o
      · rw [if_neg hi] at h; exact ⟨hi, h⟩
    obtain ⟨n1, g1⟩ := un h1 o1
    obtain ⟨n2, g2⟩ := un h2 o2
    exact r.sep i j s' t p hij g1 g2 o1 o2 (by rw [wipe_get, if_neg n1]; exact h3) (by rw [wipe_get, if_neg n2]; exact h4)
/-- a base that keeps one more thing as it stands -/
def B.add (bb : B) (d : Addr) (o : HO) : B := ⟨bb.F0, fun a => if a = d then some o else bb.H0 a, bb.P⟩
theorem Wf.add {bb : B} {F H : Hp} {d : Addr} {o : HO} (w : Wf bb F H) (h0 : bb.H0 d = none) (nF : F d = none) (hd : H d = some o) : Wf (bb.add d o) F H := by
  refine ⟨w.fh, w.ff, fun a u hn e => ?_, fun a u e => ?_, fun a e => ?_, fun i p hp => ?_⟩
  · have e' : (if a = d then some o else bb.H0 a) = some u := e
    by_cases z : a = d
    · subst z; rw [if_pos rfl] at e'; cases e'; exact hd
    · rw [if_neg z] at e'; exact w.keep a u hn e'
  · rcases w.new a u e with q | q
    · exact .inl q
    · refine .inr ?_
      show (if a = d then some o else bb.H0 a) = none
      have ne : a ≠ d := fun z => by subst z; rw [nF] at e; cases e
      rw [if_neg ne]; exact q
  · show (if a = d then some o else bb.H0 a) = none
    have ne : a ≠ d := fun z => by subst z; rw [hd] at e; cases e
    rw [if_neg ne]; exact w.live a e
  · obtain ⟨u, hu⟩ := w.pn i p hp
    refine ⟨u, ?_⟩
    show (if p = d then some o else bb.H0 p) = some u
    have ne : p ≠ d := fun z => by subst z; rw [h0] at hu; cases hu
    rw [if_neg ne]; exact hu
theorem Rs.add {bb : B} {δ : List S} {σ : L2.St} {F H : Hp} {d : Addr} {o : HO} (r : Rs K bb δ σ F H) (hn : ∀ (j : Nat) (s : S), δ[j]? = some s → s.owned = true → σ[j]? ≠ some (some (.ref d))) : Rs K (bb.add d o) δ σ F H := by
  refine ⟨r.len, fun i s y h1 h2 => ?_, r.sep⟩
  have z := r.sl i s y h1 h2
  by_cases ho : s.owned = true
  · obtain ⟨p, a1, a2, a3⟩ := slot_val z ho
    refine slot_of ho ⟨p, a1, a2, ?_⟩
    cases hk : s.inp with
    | true => rw [hk, if_pos rfl] at a3; rw [if_pos rfl]; exact a3
    | false =>
      rw [hk, if_neg Bool.false_ne_true] at a3
      rw [if_neg Bool.false_ne_true]
      show (if p = d then some o else bb.H0 p) = none
      have ne : p ≠ d := fun z => hn i s h1 ho (by rw [h2, a1, z])
      rw [if_neg ne]; exact a3
  · cases s with
    | no => trivial
    | v d => exact z
    | ex _ _ _ _ _ => exact z
    | ol k xs => exact absurd rfl ho
    | oo k c ns xs => exact absurd rfl ho
theorem Rs.sub {bb : B} {δ : List S} {σ : L2.St} {F H : Hp} {d : Addr} {o : HO} (h0 : bb.H0 d = none) (r : Rs K (bb.add d o) δ σ F H) : Rs K bb δ σ F H := by
  refine ⟨r.len, fun i s y h1 h2 => ?_, r.sep⟩
  have z := r.sl i s y h1 h2
  by_cases ho : s.owned = true
  · obtain ⟨p, a1, a2, a3⟩ := slot_val z ho
    refine slot_of ho ⟨p, a1, a2, ?_⟩
    cases hk : s.inp with
    | true => rw [hk, if_pos rfl] at a3; rw [if_pos rfl]; exact a3
    | false =>
      rw [hk, if_neg Bool.false_ne_true] at a3
      rw [if_neg Bool.false_ne_true]
      have a3' : (if p = d then some o else bb.H0 p) = none := a3
      by_cases q : p = d
      · rw [q]; exact h0
      · rw [if_neg q] at a3'; exact a3'
  · cases s with
    | no => trivial
    | v d => exact z
    | ex _ _ _ _ _ => exact z
    | ol k xs => exact absurd rfl ho
    | oo k c ns xs => exact absurd rfl ho
theorem Wf.sub {bb : B} {F H : Hp} {d : Addr} {o : HO} (h0 : bb.H0 d = none) (hp : ∀ i, bb.P i ≠ some d) (hF : bb.F0 d = none) (w : Wf (bb.add d o) F H) : Wf bb F H ∧ F d = none ∧ H d = some o := by
  refine ⟨⟨w.fh, w.ff, fun a u hn e => w.keep a u hn ?_, fun a u e => ?_, fun a e => ?_, fun i p hi => ?_⟩, ?_, w.keep d o hp ?_⟩
  · show (if a = d then some o else bb.H0 a) = some u
    have ne : a ≠ d := fun z => by subst z; rw [h0] at e; cases e
    rw [if_neg ne]; exact e
  · rcases w.new a u e with q | q
    · exact .inl q
    · refine .inr ?_
      have q' : (if a = d then some o else bb.H0 a) = none := q
      by_cases z : a = d
      · rw [if_pos z] at q'; cases q'
      · rw [if_neg z] at q'; exact q'
  · have q' : (if a = d then some o else bb.H0 a) = none := w.live a e
    by_cases z : a = d
    · rw [if_pos z] at q'; cases q'
    · rw [if_neg z] at q'; exact q'
  · obtain ⟨u, hu⟩ := w.pn i p hi
    have hu' : (if p = d then some o else bb.H0 p) = some u := hu
    by_cases z : p = d
    · subst z; exact absurd hi (hp i)
    · rw [if_neg z] at hu'; exact ⟨u, hu'⟩
  · cases q : F d with
    | none => rfl
    | some u =>
      rcases w.new d u q with z | z
      · have z' : bb.F0 d = some u := z
        rw [hF] at z'; cases z'
      · have z' : (if d = d then some o else bb.H0 d) = none := z
        rw [if_pos rfl] at z'; cases z'
  · show (if d = d then some o else bb.H0 d) = some o
    rw [if_pos rfl]
/-- the turns of a comprehension -/
def lcD (g : Wg) (t : Wb) (u : Wt) (vs : List Nat) (δ0 : List S) (Q : List D → List S → Prop) : List D → List D → List S → Prop
  | [], acc, δ => Q acc (backS δ0 vs δ)
  | y :: ys, acc, δ => g y δ fun δ1 => t δ1 (fun c δ2 => if c = true then u δ2 (fun d δ3 => acc.length < 1000 ∧ δ3.map S.owned = δ.map S.owned ∧ lcD g t u vs δ0 Q ys (acc ++ [d]) (wipeS δ3 vs)) (fun _ _ => False)
      else δ2.map S.owned = δ.map S.owned ∧ lcD g t u vs δ0 Q ys acc (wipeS δ2 vs)) (fun _ _ => False)
def wLc (wi : Wi) (g : Wg) (t : Wb) (u : Wt) (vs : List Nat) : Wl := fun δ Q Y => wi δ (fun items δ1 => (∀ v ∈ vs, ∀ s : S, δ1[v]? = some s → s.owned = false) ∧ lcD g t u vs δ1 Q items [] (wipeS δ1 vs)) Y
theorem own_pat {δ δ' : List S} (h : δ'.map S.owned = δ.map S.owned) {j : Nat} {s : S} (hj : δ'[j]? = some s) (o : s.owned = true) : ∃ s' : S, δ[j]? = some s' ∧ s'.owned = true := by
  have e : (δ'.map S.owned)[j]? = (δ.map S.owned)[j]? := by rw [h]
  rw [List.getElem?_map, List.getElem?_map, hj] at e
  cases q : δ[j]? with
  | none => rw [q] at e; cases e
  | some s' =>
    rw [q] at e
    have e' : s.owned = s'.owned := Option.some.inj e
    exact ⟨s', rfl, by rw [← e']; exact o⟩
theorem pat_wipe {δ : List S} {vs : List Nat} {δ' : List S} (hu : ∀ v ∈ vs, ∀ s : S, δ[v]? = some s → s.owned = false) (h : δ'.map S.owned = δ.map S.owned) : (wipeS δ' vs).map S.owned = δ.map S.owned := by
  apply List.ext_getElem?
  intro j
  have e : (δ'.map S.owned)[j]? = (δ.map S.owned)[j]? := by rw [h]
  rw [List.getElem?_map, List.getElem?_map] at e
  rw [List.getElem?_map, List.getElem?_map, wipeS_get]
  by_cases hj : j ∈ vs
  · rw [if_pos hj]
    cases q : δ[j]? with
    | none =>
      rw [q] at e
      cases q' : δ'[j]? with
      | none => rfl
      | some s' => rw [q'] at e; cases e
    | some s =>
      rw [q] at e
      cases q' : δ'[j]? with
      | none => rw [q'] at e; cases e
      | some s' =>
        show some (S.no.owned) = some s.owned
        rw [hu j hj s q]
        exact congrArg some (show S.no.owned = false from rfl)
  · rw [if_neg hj]; exact e
theorem wipe_only {σ σ2 : L2.St} {vs ts : List Nat} (ho : Only ts (L2.wipe σ vs) σ2) (hs : ∀ j ∈ ts, j ∈ vs) : L2.wipe σ2 vs = L2.wipe σ vs := by
  have hl : List.length σ2 = List.length σ := ho.1.trans (wipe_length _ _)
  apply List.ext_getElem?
  intro j
  rw [wipe_get, wipe_get]
  by_cases hj : j ∈ vs
  · rw [if_pos hj, if_pos hj]
    by_cases h : j < List.length σ
    · rw [List.getElem?_eq_getElem h, List.getElem?_eq_getElem (by omega)]; rfl
    · rw [List.getElem?_eq_none (by omega), List.getElem?_eq_none (by omega)]
  · rw [if_neg hj, if_neg hj, ho.2 j (fun z => hj (hs j z)), wipe_get, if_neg hj]
theorem tr_lc {wi : Wi} {g : Wg} {t : Wb} {u : Wt} {vs ts : List Nat} {σ : L2.St} {H : Hp} {Q : VK} (hts : ∀ j ∈ ts, j ∈ vs) (h : TrL K W (wLc wi g t u vs) σ H Q) : tLc (TrI K W wi) (TrG K ts g) (TrT K W0 t) (Tr K W0 u) vs σ H Q := by
  obtain ⟨bb, δ, F, Po, Px, wf, r, q, k, kx⟩ := h
  refine ⟨bb, δ, F, _, _, wf, r, q, fun items δ1 q1 J F1 H1 wf1 s1 r1 it => ?_, kx⟩
  obtain ⟨hu, q1⟩ := q1
  intro Dn nD
  have h0 : bb.H0 Dn = none := wf1.live Dn nD
  have hP : ∀ i, bb.P i ≠ some Dn := fun i z => by
    obtain ⟨o, ho⟩ := wf1.pn i Dn z
    rw [h0] at ho; cases ho
  have nF1 : F1 Dn = none := wf1.fh.free nD
  have hF0 : bb.F0 Dn = none := wf1.ff.free nF1
  have nj := r1.notNew nD
  have njw : ∀ (δ' : List S), δ'.map S.owned = (wipeS δ1 vs).map S.owned → ∀ (j : Nat) (s : S), δ'[j]? = some s → s.owned = true → (L2.wipe σ vs)[j]? ≠ some (some (.ref Dn)) := fun δ' hp j s hj o z => by
    obtain ⟨s', hs', o'⟩ := own_pat hp hj o
    rw [wipeS_get] at hs'
    by_cases hv : j ∈ vs
    · rw [if_pos hv] at hs'
      cases q : δ1[j]? with
      | none => rw [q] at hs'; cases hs'
      | some s2 => rw [q] at hs'; cases hs'; cases o'
    · rw [if_neg hv] at hs'
      rw [wipe_get, if_neg hv] at z
      exact nj j s' hs' o' z
  have hun : ∀ (δ' : List S), δ'.map S.owned = (wipeS δ1 vs).map S.owned → ∀ v ∈ vs, ∀ s : S, δ'[v]? = some s → s.owned = false := fun δ' hp v hv s hs => by
    cases ho : s.owned with
    | false => rfl
    | true =>
      obtain ⟨s', hs', o'⟩ := own_pat hp hs ho
      rw [wipeS_get, if_pos hv] at hs'
      cases q : δ1[v]? with
      | none => rw [q] at hs'; cases hs'
      | some s2 => rw [q] at hs'; cases hs'; cases o'
  have ex0 := Ext.beside (o := .lst []) wf1.fh nD
  refine ⟨fun i m H' => ∃ δ' F' acc accv, Wf bb F' H' ∧ Same F1 F' ∧ Rs K bb δ' (L2.wipe σ vs) F' H' ∧ H' Dn = some (.lst accv) ∧ F' Dn = none ∧ Reps K F' acc accv ∧ i ≤ items.length ∧ m = items.length - i ∧ δ'.map S.owned = (wipeS δ1 vs).map S.owned ∧ lcD g t u vs δ1 Po (items.drop i) acc δ',
    ⟨_, wipeS δ1 vs, F1, [], [], wf1.ext ex0, Same.refl _, (r1.ext ex0).wipe vs, upd_same, nF1, rfl, Nat.zero_le _, rfl, rfl, q1⟩, ?_⟩
  rintro i m H' ⟨δ', F', acc, accv, wf', s', r', hD, nF', racc, hi, rfl, hpat, lp⟩
  obtain ⟨st, go⟩ := it F' H' s' wf'.fh
  by_cases hlt : i < items.length
  · refine .inr ?_
    have hd : items[i]? = some items[i] := List.getElem?_eq_getElem hlt
    obtain ⟨g1, g2⟩ := go i _ hd
    refine ⟨g1, fun H2 => ∃ δ2 F2 acc2 accv2, Wf bb F2 H2 ∧ Same F1 F2 ∧ Rs K bb δ2 (L2.wipe σ vs) F2 H2 ∧ H2 Dn = some (.lst accv2) ∧ F2 Dn = none ∧ Reps K F2 acc2 accv2 ∧ δ2.map S.owned = (wipeS δ1 vs).map S.owned ∧ lcD g t u vs δ1 Po (items.drop (i + 1)) acc2 δ2,
      fun H2 ⟨δ2, F2, acc2, accv2, a1, a2, a3, a4, a5, a6, a7, a8⟩ => ⟨items.length - (i + 1), by omega, δ2, F2, acc2, accv2, a1, a2, a3, a4, a5, a6, hlt, rfl, a7, a8⟩, fun y H'' hy => ?_⟩
    obtain ⟨F'', ex, ry⟩ := g2 y H'' hy
    rw [List.drop_eq_getElem_cons hlt] at lp
    have wfx := wf'.ext ex
    have rx := r'.ext ex
    have hD'' : H'' Dn = some (.lst accv) := ex.hh _ _ hD
    have nF'' : F'' Dn = none := by
      cases z : F'' Dn with
      | none => rfl
      | some v =>
        rcases ex.new Dn v z with z' | z'
        · rw [nF'] at z'; cases z'
        · rw [hD] at z'; cases z'
    have wA := wfx.add h0 nF'' hD''
    have rA := rx.add (o := .lst accv) (njw δ' hpat)
    have sx : Same F1 F'' := s'.trans ex.ff
    refine ⟨bb.add Dn (.lst accv), δ', F'', _, _, wA, rA, ry, lp, fun δ2 q2 σ2 o2 r2 => ?_⟩
    have hw : L2.wipe σ2 vs = L2.wipe σ vs := wipe_only o2 hts
    refine ⟨hw, bb.add Dn (.lst accv), δ2, F'', _, _, wA, r2, q2, fun c δ3 q3 F3 H3 wf3 s3 r3 => ?_, fun er δ' z => z.elim⟩
    cases c with
    | true =>
      rw [if_pos rfl] at q3
      refine iteT ⟨bb.add Dn (.lst accv), δ3, F3, _, _, wf3, r3, q3, fun d δ4 q4 v F4 H4 wf4 s4 r4 rv => ?_, fun er δ' z => z.elim⟩
      obtain ⟨hl, hp4, q4⟩ := q4
      obtain ⟨w5, nF5, hD5⟩ := wf4.sub h0 hP hF0
      refine ⟨accv, hD5, by rw [racc.length]; exact small1000 (by omega), ?_⟩
      have ra4 : Reps K F4 acc accv := racc.mono ((ex.ff.trans s3).trans s4)
      have pat4 : δ4.map S.owned = (wipeS δ1 vs).map S.owned := hp4.trans hpat
      have r4w : Rs K (bb.add Dn (.lst accv)) (wipeS δ4 vs) (L2.wipe σ vs) F4 H4 := by rw [← hw]; exact r4.wipe vs
      have pw : (wipeS δ4 vs).map S.owned = (wipeS δ1 vs).map S.owned := by
        have := pat_wipe (δ := δ') (vs := vs) (δ' := δ4) (hun δ' hpat) hp4
        exact this.trans hpat
      have ne : ∀ {a : Addr} {o : HO}, F4 a = some o → a ≠ Dn := fun {a o} e z => by subst z; rw [nF5] at e; cases e
      refine ⟨wipeS δ4 vs, F4, acc ++ [d], accv ++ [v], ⟨fun a o e => by rw [upd_ne (ne e)]; exact w5.fh a o e, w5.ff, fun a o hn e => ?_, w5.new, fun a e => ?_, w5.pn⟩, (sx.trans s3).trans s4, ?_, upd_same, nF5, ra4.append (Reps.cons rv rfl), pw, q4⟩
      · have ne2 : a ≠ Dn := fun z => by subst z; rw [h0] at e; cases e
        rw [upd_ne ne2]; exact w5.keep a o hn e
      · by_cases z : a = Dn
        · subst z; exact h0
        · rw [upd_ne z] at e; exact w5.live a e
      · have r5 := r4w.sub h0
        refine ⟨r5.len, fun j s y' h1 h2 => slot_mono (r5.sl j s y' h1 h2) (Same.refl _) fun o p hp w => w.keep (Same.refl _) w.1 fun o' ho' => ?_, r5.sep⟩
        have ne3 : p ≠ Dn := fun z => by
          subst z
          exact njw _ pw j s h1 o (by rw [h2, hp])
        rw [upd_ne ne3]; exact ho'
    | false =>
      rw [if_neg Bool.false_ne_true] at q3
      refine iteF ?_
      obtain ⟨hp3, q3⟩ := q3
      obtain ⟨w5, nF5, hD5⟩ := wf3.sub h0 hP hF0
      have r3w : Rs K (bb.add Dn (.lst accv)) (wipeS δ3 vs) (L2.wipe σ vs) F3 H3 := by rw [← hw]; exact r3.wipe vs
      have pw : (wipeS δ3 vs).map S.owned = (wipeS δ1 vs).map S.owned := (pat_wipe (δ := δ') (vs := vs) (δ' := δ3) (hun δ' hpat) hp3).trans hpat
      exact ⟨wipeS δ3 vs, F3, acc, accv, w5, sx.trans s3, r3w.sub h0, hD5, nF5, racc.mono (ex.ff.trans s3), pw, q3⟩
  · have e : i = items.length := by omega
    subst e
    rw [List.drop_length] at lp
    refine .inl ⟨st, k acc _ lp Dn F' H' wf' (s1.trans s') (r1.back s' hu r') ⟨⟨nF', accv, hD, racc⟩, h0, fun j s hj o z => ?_⟩⟩
    have hl : δ'.length = δ1.length := by rw [← r'.len, wipe_length, r1.len]
    rw [backS_get _ _ hl] at hj
    by_cases hv : j ∈ vs
    · rw [if_pos hv] at hj; rw [hu j hv s hj] at o; cases o
    · rw [if_neg hv] at hj
      exact njw δ' hpat j s hj o (by rw [wipe_get, if_neg hv]; exact z)
theorem x_yes : PTs X [] (TrT K W (fun δ Q _ => Q true δ)) := ⟨fun pins s σ H Q I h => by
  obtain ⟨b, δ, F, Po, Px, wf, r, q, k, _⟩ := h
  exact pts_nil.run pins s σ H Q I (k true δ q F H wf (Same.refl _) r)⟩
theorem x_pt1 {t : Wb} (h : PT X c (TrT K W t)) : PTs X [c] (TrT K W t) := pts_one h
/-- [elt for tg in iter if ..], a list of its own -/
theorem xl_lc {elt iter : Expr} {ifs : List Expr} {scope : Scope} {own : List (Str × Nat)} {wi : Wi} {g : Wg} {t : Wb} {u : Wt} {ts : List Nat} (hc : X.calm = true) (hN : X.N.Nodup) (hi : PI X tg iter (TrI X.K W wi)) (ok : BlkOk X.N X.env.scope scope own) (hts : ∀ j ∈ ts, j ∈ own.map (·.2))
    (hg : ∀ (s : Shared) (H : Hp) (C : Addr) (cl : List (Str × Addr)) (fp : List Addr), PG (X.blk s H scope (PySem.compEnvC scope cl C X.env) fp) tg (TrG X.K ts g)) (ht : ∀ (s : Shared) (H : Hp) (C : Addr) (cl : List (Str × Addr)) (fp : List Addr), PTs (X.blk s H scope (PySem.compEnvC scope cl C X.env) fp) ifs (TrT X.K W0 t))
    (he : ∀ (s : Shared) (H : Hp) (C : Addr) (cl : List (Str × Addr)) (fp : List Addr), PE (X.blk s H scope (PySem.compEnvC scope cl C X.env) fp) elt (Tr X.K W0 u)) (hs : ∀ x, foldedSetIterable iter X.env x = pure x := by intro _; rfl) :
    PE X (.ListComp elt [⟨tg, iter, ifs, 0⟩] scope pos) (TrL X.K W (wLc wi g t u (own.map (·.2)))) := pe_imp (pe_lc hc hN hi ok hg ht he hs) fun _ _ _ => tr_lc hts
theorem s_setLc {elt iter : Expr} {ifs : List Expr} {scope : Scope} {own : List (Str × Nat)} {wi : Wi} {g : Wg} {t : Wb} {u : Wt} {ts : List Nat} (i : Nat) {y : Str} {py spos : Pos} (hc : X.calm = true) (hN : X.N.Nodup) (hi : PI X tg iter (TrI X.K W wi)) (ok : BlkOk X.N X.env.scope scope own) (hts : ∀ j ∈ ts, j ∈ own.map (·.2))
    (hg : ∀ (s : Shared) (H : Hp) (C : Addr) (cl : List (Str × Addr)) (fp : List Addr), PG (X.blk s H scope (PySem.compEnvC scope cl C X.env) fp) tg (TrG X.K ts g)) (ht : ∀ (s : Shared) (H : Hp) (C : Addr) (cl : List (Str × Addr)) (fp : List Addr), PTs (X.blk s H scope (PySem.compEnvC scope cl C X.env) fp) ifs (TrT X.K W0 t))
    (he : ∀ (s : Shared) (H : Hp) (C : Addr) (cl : List (Str × Addr)) (fp : List Addr), PE (X.blk s H scope (PySem.compEnvC scope cl C X.env) fp) elt (Tr X.K W0 u))
    (hy : X.N[i]? = some y := by rfl) (hyl : X.env.scope.names.lookup y = some .local := by rfl) (hsw : swapsWith (.ListComp elt [⟨tg, iter, ifs, 0⟩] scope pos) (some (.Name y py)) spos.line X.env = pure true) (hs : ∀ x, foldedSetIterable iter X.env x = pure x := by intro _; rfl) :
    PS X (.Assign [.Name y py] (.ListComp elt [⟨tg, iter, ifs, 0⟩] scope pos) spos) (TrS X.K W (wSetL i (wLc wi g t u (own.map (·.2))))) := ps_imp (ps_setLc hc hN hy hyl hsw hi ok hg ht he hs) fun Dn σ H h => by
  obtain ⟨b, δ, F, E, wf, r, q, k1, k2, k3, k4, k5⟩ := h
  exact tr_lc hts ⟨b, δ, F, _, _, wf, r, q, fun d δ1 q1 p F1 H1 wf1 s1 r1 n => k1 _ q1 _ F1 H1 wf1 s1 (r1.setL n), k5_of k5⟩
/-- the same, let go at once -/
def wSetF (i : Nat) (u : Wl) : Ws := fun δ E => u δ (fun xs δ1 => E.nx (δ1.set i (.v (.lst xs)))) E.xx
theorem s_setLcF {elt iter : Expr} {ifs : List Expr} {scope : Scope} {own : List (Str × Nat)} {wi : Wi} {g : Wg} {t : Wb} {u : Wt} {ts : List Nat} (i : Nat) {y : Str} {py spos : Pos} (hc : X.calm = true) (hN : X.N.Nodup) (hi : PI X tg iter (TrI X.K W wi)) (ok : BlkOk X.N X.env.scope scope own) (hts : ∀ j ∈ ts, j ∈ own.map (·.2))
    (hg : ∀ (s : Shared) (H : Hp) (C : Addr) (cl : List (Str × Addr)) (fp : List Addr), PG (X.blk s H scope (PySem.compEnvC scope cl C X.env) fp) tg (TrG X.K ts g)) (ht : ∀ (s : Shared) (H : Hp) (C : Addr) (cl : List (Str × Addr)) (fp : List Addr), PTs (X.blk s H scope (PySem.compEnvC scope cl C X.env) fp) ifs (TrT X.K W0 t))
    (he : ∀ (s : Shared) (H : Hp) (C : Addr) (cl : List (Str × Addr)) (fp : List Addr), PE (X.blk s H scope (PySem.compEnvC scope cl C X.env) fp) elt (Tr X.K W0 u))
    (hy : X.N[i]? = some y := by rfl) (hyl : X.env.scope.names.lookup y = some .local := by rfl) (hsw : swapsWith (.ListComp elt [⟨tg, iter, ifs, 0⟩] scope pos) (some (.Name y py)) spos.line X.env = pure true) (hs : ∀ x, foldedSetIterable iter X.env x = pure x := by intro _; rfl) :
    PS X (.Assign [.Name y py] (.ListComp elt [⟨tg, iter, ifs, 0⟩] scope pos) spos) (TrS X.K W (wSetF i (wLc wi g t u (own.map (·.2))))) := ps_imp (ps_setLc hc hN hy hyl hsw hi ok hg ht he hs) fun Dn σ H h => by
  obtain ⟨b, δ, F, E, wf, r, q, k1, k2, k3, k4, k5⟩ := h
  refine tr_lc hts ⟨b, δ, F, _, _, wf, r, q, fun d δ1 q1 p F1 H1 wf1 s1 r1 n => ?_, k5_of k5⟩
  obtain ⟨F2, a1, a2, a3, a4⟩ := freeze wf1 r1 n
  exact k1 _ q1 _ F2 H1 a1 (s1.trans a2) (a3.setV a4)
end
end L3

set_option Elab.async false
set_option linter.all false
set_option maxRecDepth 100000
set_option maxHeartbeats 1000000
namespace L3
open PySem L2
section
variable {X : Cx} {K : PySem.W.Frag} {W : WX} {e a b c o : Expr} {es : List Expr} {t : TE} {pos : Pos}
variable {k n : Nat} {f C g pp : Addr} {fd : FuncData} {ps ks : List Str} {ff : Fn} {dvs : List V} {dvl : List Value} {dd : List D} {x m : Str} {p apos kpos : Pos} {kws : List Keyword}

/-! ### keywords alone -/
abbrev Perm := {α : Type} → List α → List α
theorem pk_imp {t t' : TA} (h : PK X kws t) (i : ∀ σ H Q, t' σ H Q → t σ H Q) : PK X kws t' := ⟨fun pos pins s σ H Q I q => h.run pos pins s σ H Q I (i _ _ _ q)⟩
theorem xk_nil : PK X [] (TrA K W wNil) := pk_imp pk_nil fun σ H Q h => by
  obtain ⟨b, δ, F, Po, Px, wf, r, q, k, kx⟩ := h
  exact k _ _ q _ F H wf (Same.refl _) r .nil
theorem xk_cons {u : Wt} {w : Wa} {nm : Option Str} (h : PE X e (Tr K W u)) (h' : PK X kws (TrA K W w)) : PK X (⟨nm, e, kpos⟩ :: kws) (TrA K W (wCons u w)) := pk_imp (pk_cons h h') fun σ H Q h => by
  obtain ⟨b, δ, F, Po, Px, wf, r, q, k, kx⟩ := h
  refine ⟨b, δ, F, _, _, wf, r, q, fun d δ1 q1 x F1 H1 wf1 s1 r1 rx => ?_, kx⟩
  exact ⟨b, δ1, F1, _, _, wf1, r1, q1, fun as δ2 q2 vs F2 H2 wf2 s2 r2 ra => k _ δ2 q2 _ F2 H2 wf2 (s1.trans s2) r2 (.cons (rx.mono s2) ra), fun er δ' hx => Xp.back s1 (kx er δ' hx)⟩
/-- what the written part says of a def called by keywords: n values first, then h of the keywords' values -/
abbrev KbP (K : PySem.W.Frag) (fd : FuncData) (ps : List Str) (n : Nat) (ks : List Str) (h : Perm) : Prop := KBn K fd ps n ks (fun us ws => us ++ h ws) (fun vs zs => vs ++ h zs)
structure PermOk (m : Nat) (h : Perm) : Prop where
  vals : ∀ {vs : List V} {us : List Value}, Vals vs us → Vals (h vs) (h us)
  reps : ∀ {K : PySem.W.Frag} {F : Hp} {ds : List D} {vs : List V}, Reps K F ds vs → Reps K F (h ds) (h vs)
def pId : Perm := fun l => l
def pSwap : Perm := fun l => match l with
  | [a, b] => [b, a]
  | l => l
theorem pId_ok {m : Nat} : PermOk m pId := ⟨fun h => h, fun h => h⟩
theorem pSwap_ok {m : Nat} : PermOk m pSwap := ⟨fun {vs us} h => by
    cases h with
    | nil => exact .nil
    | cons r1 h1 =>
      cases h1 with
      | nil => exact .cons r1 .nil
      | cons r2 h2 =>
        cases h2 with
        | nil => exact .cons r2 (.cons r1 .nil)
        | cons r3 h3 => exact .cons r1 (.cons r2 (.cons r3 h3)), fun {K F ds vs} h => by
    match ds, h with
    | [], h => rw [show vs = [] from h]; rfl
    | [d], h => obtain ⟨v, rfl, r⟩ := (by
          obtain ⟨v, us, rfl, r1, r2⟩ := h
          rw [show us = [] from r2]
          exact ⟨v, rfl, r1⟩ : ∃ v, vs = [v] ∧ Rep K F d v)
                exact Reps.cons r rfl
    | [d, d'], h =>
      obtain ⟨v, us, rfl, r1, w, us', rfl, r2, r3⟩ := h
      rw [show us' = [] from r3]
      exact Reps.cons r2 (Reps.cons r1 rfl)
    | d :: d' :: d'' :: ds, h =>
      obtain ⟨v, us, rfl, r1, w, us', rfl, r2, z, us'', rfl, r3, r4⟩ := h
      exact ⟨v, _, rfl, r1, w, _, rfl, r2, z, _, rfl, r3, r4⟩⟩
theorem kb_fun {h : Perm} {m : Nat} {nm qual : Str} {st : Stmt} (F : L2.Fun K nm qual st f fd) (ok : PermOk m h)
    (hb : ∀ (kV doc pm : Value) (an : Option Addr) (cdv ct : Value) (us ws : List Value), us.length = n → ws.length = ks.length → bindArgs (PySem.W.fnOf nm qual (defArgs st) (defBody st) (defScope st) .none kV doc pm an cdv ct) ⟨us, ks.zip ws⟩ = pure (ps.zip (us ++ h ws))) : KbP K fd ps n ks h := by
  obtain ⟨oc, od, kV, doc, pm, an, cdv, ct, osl, rfl, lk, hcd⟩ := F.ex
  exact ⟨fun s us ws X l1 l2 => .of_eq (hb kV doc pm an cdv ct us ws l1 l2), fun r1 r2 => r1.append (ok.vals r2)⟩
theorem kb_funD {h : Perm} {m : Nat} {nm qual : Str} {st : Stmt} {dk : List (Str × V)} (F : FunD K nm qual (defArgs st) (defBody st) (defScope st) dvs dk f fd) (hd : dvs ≠ []) (ok : PermOk m h)
    (hb : ∀ (T : Addr) (kV doc pm : Value) (an : Option Addr) (cdv ct : Value) (us its ws : List Value), us.length = n → its.length = dvs.length → ws.length = ks.length →
      ∃ k, bindArgs (PySem.W.fnOf nm qual (defArgs st) (defBody st) (defScope st) (.ref T) kV doc pm an cdv ct) ⟨us, ks.zip ws⟩ = seqItems? (.ref T) >>= k ∧ k (some its.toArray) = pure (ps.zip (us ++ h ws))) : KbP K fd ps n ks h := by
  obtain ⟨oc, od, dV, kV, doc, pm, an, cdv, ct, osl, rfl, lk, hcd, hD, hK⟩ := F.ex
  rcases hD with ⟨e, _⟩ | ⟨_, T, o, its, m, rfl, lT, oT, rT⟩
  · exact absurd e hd
  · refine ⟨fun s us ws X l1 l2 => ?_, fun r1 r2 => r1.append (ok.vals r2)⟩
    obtain ⟨k, e1, e2⟩ := hb T kV doc pm an cdv ct us its ws l1 rT.length.symm l2
    refine BindsTo.of_looks fun M => ?_
    rw [e1]
    exact looks_items X lT oT (.of_pure e2)
def wCallW (f : Fn) (h : Perm) (m : Nat) (u : Wa) : Wt := fun δ Q Y => u δ (fun as δ1 => ∃ ds, trees as = some ds ∧ ds.length = m ∧ f ((h ds).map S.v) (fun r _ => Q (rvD r) δ1) (fun _ _ => False)) Y
/-- the promise of a call that raises nothing -/
theorem sp_call0 {F H : Hp} {f : Fn} {ds : List D} {vs : List V} {R : Rv → List S → Prop} {n : Nat} {Q : VK} (sF : Same F H) (rr : Reps K F ds vs) (hn : vs.length = n)
    (q : f (ds.map S.v) R (fun _ _ => False)) (k : ∀ rv fin, R rv fin → ∀ v F' H', Wf ⟨F, H, fun _ => none⟩ F' H' → RtOk K ⟨F, H, fun _ => none⟩ F' H' rv v → Q v H') : spF K n f vs H Q E0 :=
  ⟨F, fun _ => none, _, R, _, hn, sF, (fun _ _ z => by cases z), rs_args rr, q, fun rv fin h v F' H' w _ ok => k rv fin h v F' H' w ok, fun er fin h => h.elim⟩
theorem tr_callW {f : Fn} {h : Perm} {m n : Nat} {u : Wa} {σ : L2.St} {H : Hp} {Q : VK} (ok : PermOk m h) (hf : ∀ as R Y, f as R Y → as.length = n) (hh : Tr K W (wCallW f h m u) σ H Q) : tCallW (spF K n f) (fun zs => [] ++ h zs) m E0 (TrA K W u) σ H Q := by
  obtain ⟨b, δ, F, Po, Px, wf, r, q, k, kx⟩ := hh
  refine ⟨b, δ, F, _, _, wf, r, q, fun as δ1 q1 vs F1 H1 wf1 s1 r1 ra => ?_, kx⟩
  obtain ⟨ds, hds, hm, q2⟩ := q1
  have r0 := reps_of ra hds
  have rr := ok.reps r0
  have hn : (h vs).length = n := by
    have := hf _ _ _ q2
    rw [List.length_map] at this
    rw [rr.length, this]
  refine ⟨by rw [r0.length, hm], ?_⟩
  show spF K n f (h vs) H1 Q E0
  refine sp_call0 wf1.fh rr hn q2 (fun rv fin q3 v F' H' w ok => ?_)
  obtain ⟨F2, a1, a2, a3, a4, _⟩ := rv_tree wf1 r1 w (Same.refl _) (fun i x z => by cases z) ok
  exact k _ _ q3 v F2 H' a1 (s1.trans a2) a3 a4
theorem x_callW {h : Perm} {u : Wa} (F : FnG X.prog X.w X.K X.mg X.base (L2.CX X.prog X.w) k f fd ps (spF X.K n ff)) (hr : RmG k X.A) (hm : X.mg x = some (.ref f)) (hk : PySem.W.keepIn X.K (.ref f) = true) (hb : KbP X.K fd ps 0 ks h) (ok : PermOk ks.length h)
    (hf : ∀ as R Y, ff as R Y → as.length = n) (hkw : PK X kws (TrA X.K W u)) (hg : Gl X x := by rfl)
    (hall : (backToKw pos (keywordEach kws X.env)).all (·.1.isSome) = true := by rfl) (hks : (backToKw pos (keywordEach kws X.env)).filterMap (·.1) = ks := by rfl) (hdb : (x == ("__debug__" : Str)) = false := by decide)
    (hpl : ((backTo pos (starEach [] X.env)).any (·.1) || (backToKw pos (keywordEach kws X.env)).any (·.1.isNone)) = false := by rfl) : PE X (.Call (.Name x p) [] kws pos) (Tr X.K W (wCallW ff h ks.length u)) :=
  pe_imp (pe_callW F hr hg hm hk hb passL hkw hall hks hdb hpl) fun _ _ _ => tr_callW ok hf
/-- C(k = e, ..) -/
def wMakeW (C : Addr) (f : Fn) (h : Perm) (m : Nat) (u : Wa) : Wt := fun δ Q Y => u δ (fun as δ1 => ∃ ds, trees as = some ds ∧ ds.length = m ∧ f (.oo true C [] [] :: (h ds).map S.v) (fun r fin => ∃ ns xs, fin[0]? = some (.oo true C ns xs) ∧ Q (.obj C ns xs) δ1) (fun _ _ => False)) Y
theorem tr_makeW {f : Fn} {h : Perm} {m n : Nat} {u : Wa} {σ : L2.St} {H : Hp} {Q : VK} (ok : PermOk m h) (hf : ∀ as R Y, f as R Y → as.length = n) (hn' : ∀ as R Y, f as R Y → f as (fun r fin => r = .d .non ∧ R r fin) Y) (hh : Tr K W (wMakeW C f h m u) σ H Q) :
    tMakeW C (spF K n f) (fun vs zs => vs ++ h zs) m E0 (TrA K W u) σ H Q := by
  obtain ⟨b, δ, F, Po, Px, wf, r, q, k, kx⟩ := hh
  refine ⟨b, δ, F, _, _, wf, r, q, fun as δ1 q1 vs F1 H1 wf1 s1 r1 ra => ?_, kx⟩
  obtain ⟨ds, hds, hm, q2⟩ := q1
  have r0 := reps_of ra hds
  refine ⟨by rw [r0.length, hm], ?_⟩
  intro x dx nx ndx nex
  exact make_core wf1 r1 (ok.reps r0) hf hn' q2 (fun d δ' q v F' H' w s => k d δ' q v F' H' w (s1.trans s)) (fun er fin q => q.elim) x dx nx ndx nex
theorem x_makeW {h : Perm} {u : Wa} (M : Mk X.K C f) (F : FnG X.prog X.w X.K X.mg X.base (L2.CX X.prog X.w) k f fd ps (spF X.K n ff)) (hr : RmG (k + 1) X.A) (hm : X.mg x = some (.ref C)) (hb : KbP X.K fd ps 1 ks h) (ok : PermOk ks.length h)
    (hf : ∀ as R Y, ff as R Y → as.length = n) (hn' : ∀ as R Y, ff as R Y → ff as (fun r fin => r = .d .non ∧ R r fin) Y) (hkw : PK X kws (TrA X.K W u)) (hg : Gl X x := by rfl)
    (hall : (backToKw pos (keywordEach kws X.env)).all (·.1.isSome) = true := by rfl) (hks : (backToKw pos (keywordEach kws X.env)).filterMap (·.1) = ks := by rfl) (hdb : (x == ("__debug__" : Str)) = false := by decide)
    (hpl : ((backTo pos (starEach [] X.env)).any (·.1) || (backToKw pos (keywordEach kws X.env)).any (·.1.isNone)) = false := by rfl) : PE X (.Call (.Name x p) [] kws pos) (Tr X.K W (wMakeW C ff h ks.length u)) :=
  pe_imp (pe_makeW M F hr hg hm hb passL hkw hall hks hdb hpl) fun _ _ _ => tr_makeW ok hf hn'

/-! ### o.m(k = e, ..) -/
def tMethW (C : Addr) (m : Str) (sp : Sp) (gV : List V → List V → List V) (mm : Nat) (E : XK) (ta : TE) (tk : TA) : TE := fun σ H Q => ta σ H fun x H1 => ∃ a dx fs, x = .ref a ∧ H1 a = some (.ins C dx fs) ∧ fs.lookup m = none ∧
  tk σ H1 fun zs H2 => zs.length = mm ∧ sp (gV [x] zs) H2 Q E
theorem pe_methW {E1 : XK} {ta : TE} {tk : TA} {sp : Sp} {CX : CXT} {gg : List Value → List Value → List Value} {gV : List V → List V → List V} {pl : Sem Bool} (he : PE X o ta) (c : Cls X.K C) (hm : Meth X.K C m f) (F : FnG X.prog X.w X.K X.mg X.base CX k f fd ps sp) (hr : RmG k X.A)
    (hb : KBn X.K fd ps 1 ks gg gV) (hx : Passes CX X E1) (hkw : PK X kws tk)
    (hall : (backToKw pos (keywordEach kws X.env)).all (·.1.isSome) = true := by rfl) (hks : (backToKw pos (keywordEach kws X.env)).filterMap (·.1) = ks := by rfl)
    (hpl : ((backTo pos (starEach [] X.env)).any (·.1) || (backToKw pos (keywordEach kws X.env)).any (·.1.isNone)) = false := by rfl)
    (ht : eval (.Call (.Attribute o m apos) [] kws pos) X.env = (do
      let ov ← eval o X.env
      standAt apos.atName
      let (f, first) ← holding [ov] (getMethod ov m pl)
      callWith pos f first (backTo pos (starEach [] X.env)) (backToKw pos (keywordEach kws X.env))) := by rfl) : PE X (.Call (.Attribute o m apos) [] kws pos) (tMethW C m sp gV ks.length E1 ta tk) := ⟨fun pins s σ H Q I h => by
  refine PySem.W.methodCall_KW (pl := pl) (thn (he.run pins s σ H _ I h) ?_) ht
  rintro u s1 ⟨_, H1, I1, rx, a, dx, fs, rfl, ea, l, q⟩
  cases (show u = Value.ref a from rx)
  refine getmeth_ok I1 ea c hm l (PySem.W.callWith_KW0 (first := [.ref a]) (h₀ := X.base) I1.ok.mod.kin hm.kp hall ?_ hpl)
  refine thn (hkw.run pos pins s1 σ H1 _ I1 q) ?_
  rintro ws s2 ⟨zs, H2, I2, rz, l2, q2⟩
  refine ⟨I2.kIn, ?_⟩
  rw [hks]
  have r2 := hb.rel (.cons rfl .nil : Vals [V.ref a] [Value.ref a]) rz
  refine wpAny_call (codeAny_mono (F.run X.A X.stack s2 H2 ⟨[.ref a], ks.zip ws⟩ (gg [.ref a] ws) (gV [.ref a] zs) Q E1 hr I2.env0 (hb.to s2 [.ref a] ws I2.kIn rfl (rz.length.symm.trans l2)) r2 q2) ?_)
  rintro (e | fl) s' hq
  · exact hx pins σ H2 s2 e s' I2 hq
  · cases fl <;> first | exact I2.after hq | exact False.elim hq⟩
def wMethW (C : Addr) (m : Str) (f : Fn) (h : Perm) (mm : Nat) (w : Wt) (u : Wa) : Wt := fun δ Q Y => w δ (fun d δ1 => ∃ ns xs, d = .obj C ns xs ∧ m ∉ ns ∧ u δ1 (fun as δ2 => ∃ ds, trees as = some ds ∧ ds.length = mm ∧ f ((d :: h ds).map S.v) (fun r _ => Q (rvD r) δ2) (fun _ _ => False)) Y) Y
theorem tr_methW {f : Fn} {h : Perm} {mm n : Nat} {w : Wt} {u : Wa} {σ : L2.St} {H : Hp} {Q : VK} (ok : PermOk mm h) (hf : ∀ as R Y, f as R Y → as.length = n) (hh : Tr K W (wMethW C m f h mm w u) σ H Q) :
    tMethW C m (spF K n f) (fun vs zs => vs ++ h zs) mm E0 (Tr K W w) (TrA K W u) σ H Q := by
  obtain ⟨b, δ, F, Po, Px, wf, r, q, k, kx⟩ := hh
  refine ⟨b, δ, F, _, _, wf, r, q, fun d δ1 q1 x F1 H1 wf1 s1 r1 rx => ?_, kx⟩
  obtain ⟨ns, xs, rfl, hm, q1⟩ := q1
  obtain ⟨a, dx, us, rfl, ha, hl, ru⟩ := id rx
  refine ⟨a, dx, _, rfl, wf1.fh _ _ ha, lookup_zip_none hm, ?_⟩
  refine ⟨b, δ1, F1, _, _, wf1, r1, q1, fun as δ2 q2 vs F2 H2 wf2 s2 r2 ra => ?_, fun er δ' hx => Xp.back s1 (kx er δ' hx)⟩
  obtain ⟨ds, hds, hl2, q3⟩ := q2
  have r0 := reps_of ra hds
  have rr : Reps K F2 (.obj C ns xs :: h ds) (V.ref a :: h vs) := Reps.cons (rx.mono s2) (ok.reps r0)
  have hn : (V.ref a :: h vs).length = n := by
    have := hf _ _ _ q3
    rw [List.length_map] at this
    rw [rr.length, this]
  refine ⟨by rw [r0.length, hl2], ?_⟩
  show spF K n f (V.ref a :: h vs) H2 Q E0
  refine sp_call0 wf2.fh rr hn q3 (fun rv fin q3 v F' H' w ok => ?_)
  obtain ⟨F3, a1, a2, a3, a4, _⟩ := rv_tree wf2 r2 w (Same.refl _) (fun i x z => by cases z) ok
  exact k _ _ q3 v F3 H' a1 ((s1.trans s2).trans a2) a3 a4
theorem x_methW {h : Perm} {w : Wt} {u : Wa} {pl : Sem Bool} (ho : PE X o (Tr X.K W w)) (c : Cls X.K C) (hm : Meth X.K C m f) (F : FnG X.prog X.w X.K X.mg X.base (L2.CX X.prog X.w) k f fd ps (spF X.K n ff)) (hr : RmG k X.A) (hb : KbP X.K fd ps 1 ks h) (ok : PermOk ks.length h)
    (hf : ∀ as R Y, ff as R Y → as.length = n) (hkw : PK X kws (TrA X.K W u))
    (hall : (backToKw pos (keywordEach kws X.env)).all (·.1.isSome) = true := by rfl) (hks : (backToKw pos (keywordEach kws X.env)).filterMap (·.1) = ks := by rfl)
    (hpl : ((backTo pos (starEach [] X.env)).any (·.1) || (backToKw pos (keywordEach kws X.env)).any (·.1.isNone)) = false := by rfl)
    (ht : eval (.Call (.Attribute o m apos) [] kws pos) X.env = (do
      let ov ← eval o X.env
      standAt apos.atName
      let (f, first) ← holding [ov] (getMethod ov m pl)
      callWith pos f first (backTo pos (starEach [] X.env)) (backToKw pos (keywordEach kws X.env))) := by rfl) : PE X (.Call (.Attribute o m apos) [] kws pos) (Tr X.K W (wMethW C m ff h ks.length w u)) :=
  pe_imp (pe_methW ho c hm F hr hb passL hkw hall hks hpl ht) fun _ _ _ => tr_methW ok hf

/-! ### powers, an empty dict, built-in types -/
def CPowB (i j : Int) : Prop := 0 ≤ j ∧ (PySem.Builtin.Int.intBits i : Int) * j ≤ 2 ^ 27
theorem o_pow : OpR X (binaryOp .Pow) (Op2 K (oI CPowB fun i j => .int (i ^ j.toNat))) := fun pins s σ H x y u v Q I rx ry h => by
  obtain ⟨F, d, e, P, sF, r1, r2, ⟨i, j, rfl, rfl, hc, q⟩, kk⟩ := h
  cases (show x = .int i from r1)
  cases (show y = .int j from r2)
  obtain ⟨t, rfl⟩ := (show ∃ t, u = Value.int i t from rx)
  obtain ⟨t', rfl⟩ := (show ∃ t, v = Value.int j t from ry)
  exact PyProof.Rows.pow_int hc.1 hc.2 ⟨.int (i ^ j.toNat), H, I.tok _, ⟨_, rfl⟩, kk _ q _ F H (Ext.refl sF) rfl⟩
theorem x_dict0 : PE X (.Dict [] [] pos) (Tr X.K W (wC (.dk [] []))) := pe_imp pe_dnewK fun σ H Q h => by
  obtain ⟨b, δ, F, Po, Px, wf, r, q, k, kx⟩ := h
  intro p np
  have ex := Ext.new1 (o := .dK []) wf.fh np
  exact k _ δ q _ _ _ (wf.ext ex) ex.ff (r.ext ex) ⟨p, [], rfl, upd_same, rfl, rfl⟩
theorem x_ty {T : String} (hm : X.mg x = none) (hv : bootBuiltins x = some (.type T)) (hg : Gl X x := by rfl) (hn : x ≠ "__name__" := by decide) (hd : (x == ("__debug__" : Str)) = false := by decide) : PE X (.Name x pos) (Tr X.K W (wC (.ty T))) :=
  x_c (v := .ty T) (pe_bltn hg hm hv rfl hn hd) fun _ => rfl
theorem toP_nd : ∀ (d : D) (p : PyData), toP d = some p → p.hasDict = false := by
  intro d
  refine D.rec (motive_1 := fun d => ∀ p, toP d = some p → p.hasDict = false) (motive_2 := fun ds => ∀ ps, toPs ds = some ps → PyData.hasDictAll ps = false) ?_ ?_ ?_ ?_ ?_ ?_ ?_ ?_ ?_ ?_ ?_ ?_ d
  · intro p h; cases h; rfl
  · intro b p h; cases h; rfl
  · intro b p h; cases h; rfl
  · intro b p h; cases h; rfl
  · intro b p h; cases h
  · intro b p h; cases h
  · intro xs ih p h
    cases e : toPs xs with
    | none => rw [show toP (.tup xs) = (toPs xs).map .tuple from rfl, e] at h; cases h
    | some ps => rw [show toP (.tup xs) = (toPs xs).map .tuple from rfl, e] at h; cases h; exact ih ps e
  · intro xs ih p h
    cases e : toPs xs with
    | none => rw [show toP (.lst xs) = (toPs xs).map .list from rfl, e] at h; cases h
    | some ps => rw [show toP (.lst xs) = (toPs xs).map .list from rfl, e] at h; cases h; exact ih ps e
  · intro c ns xs ih p h; cases h
  · intro ks xs ih p h; cases h
  · intro ps h; cases h; rfl
  · intro x xs i1 i2 ps h
    cases e1 : toP x with
    | none => unfold toPs at h; rw [e1] at h; cases h
    | some q =>
      cases e2 : toPs xs with
      | none => unfold toPs at h; rw [e1, e2] at h; cases h
      | some rs =>
        unfold toPs at h
        rw [e1, e2] at h
        cases h
        show (PyData.hasDict q || PyData.hasDictAll rs) = false
        rw [i1 q e1, i2 rs e2]; rfl
/-- the text of a tree -/
def reprD (d : D) : Option Str := match d with
  | .dk [] [] => some (PyData.shown (.dict []))
  | d => match toP d with
    | some p => if p.showable = true ∧ p.depth ≤ 60 ∧ p.shown.length ≤ sizeLine then some p.shown else none
    | none => none
theorem wp_repr {pins : List (Addr × Obj)} {σ : L2.St} {H : Hp} {s : Shared} {u : Value} {p : PyData} {as : List Addr} {Q : VK} (hu : X.A.units + 200 < cLine) (hg : X.A.guards = some []) (I : Inv X pins σ H s) (r : Reads s.heap u p as) (hs : p.showable = true) (hd : p.depth ≤ 60) (hz : p.shown.length ≤ sizeLine)
    (hsm : p.hasDict = true → sysModules ∉ as) (q : Q (.str p.shown) H) : wpAny (model X.prog X.w) X.A (call (.builtin "repr") [u]) (EP X pins σ Q) X.xe s := by
  have fin : ∀ (x : Str) t h', (∀ b o, s.heap.get? b = some o → h'.get? b = some o) → x = p.shown → EP X pins σ Q (.str x t) { s with heap := h', toks := s.toks + 1 } := fun x t h' k e => ⟨.str x, H, I.kept k, ⟨_, rfl⟩, by rw [e]; exact q⟩
  cases r with
  | none => exact PySem.P.repr_of_none (fin _ _ s.heap (fun _ _ e => e) rfl)
  | bool b => exact PySem.P.repr_of_bool (fin _ _ s.heap (fun _ _ e => e) (by cases b <;> rfl))
  | int i t => exact PySem.P.repr_of_int (of_decide_eq_true hs) (fin _ _ s.heap (fun _ _ e => e) rfl)
  | str x t => exact PySem.P.repr_of_str (fin _ _ s.heap (fun _ _ e => e) rfl) (hsz := hz)
  | list a1 a2 a3 a4 => exact repr_of_reads' (Reads.list a1 a2 a3 a4) hs hsm hg (by omega) (fun _ _ e => e) (fun h' u tk hk => ⟨.str _, H, I.kept hk, ⟨_, rfl⟩, q⟩) hz
  | tuple a1 a2 a3 a4 => exact repr_of_reads' (Reads.tuple a1 a2 a3 a4) hs hsm hg (by omega) (fun _ _ e => e) (fun h' u tk hk => ⟨.str _, H, I.kept hk, ⟨_, rfl⟩, q⟩) hz
  | dict a1 a2 a3 a4 a5 => exact repr_of_reads' (Reads.dict a1 a2 a3 a4 a5) hs hsm hg (by omega) (fun _ _ e => e) (fun h' u tk hk => ⟨.str _, H, I.kept hk, ⟨_, rfl⟩, q⟩) hz
theorem b_repr (hu : X.A.units + 200 < cLine) (hg : X.A.guards = some []) : CallR X (.builtin "repr") (OpC X.K fun ds P => ∃ d x, ds = [d] ∧ reprD d = some x ∧ P (.str x)) := fun pins s σ H vs us Q I rv h => by
  obtain ⟨F, ds, P, sF, rr, ⟨d, x, rfl, hx, q⟩, kk⟩ := h
  obtain ⟨v, rfl, r1⟩ := reps1 rr
  cases rv with
  | cons ru rn =>
    cases rn
    have qq := kk _ q (.str x) F H (Ext.refl sF) rfl
    have gen : ∀ p, toP d = some p → (if p.showable = true ∧ p.depth ≤ 60 ∧ p.shown.length ≤ sizeLine then some p.shown else none) = some x → wpAny (model X.prog X.w) X.A (call (.builtin "repr") [_]) (EP X pins σ Q) X.xe s := fun p hp h2 => by
      obtain ⟨as, r⟩ := Dp.reads I p v _ (dp_of sF r1 hp) ru
      split at h2
      · rename_i c
        cases h2
        exact wp_repr hu hg I r c.1 c.2.1 c.2.2 (fun z => by rw [toP_nd _ _ hp] at z; cases z) qq
      · cases h2
    unfold reprD at hx
    split at hx
    · cases hx
      obtain ⟨a, vs, rfl, h1, h2, h3⟩ := r1
      have ru' : _ = Value.ref a := ru
      subst ru'
      have h3' : vs = [] := h3
      subst h3'
      obtain ⟨_, hsm, vs', kv, o, es, ep, g1, g2, g3, g4⟩ := dk_of (P := X.prog) (w := X.w) I.hok (sF _ _ h1)
      have hv : vs' = [] := by cases kv; rfl
      subst hv
      obtain ⟨_, g5, _⟩ := g4
      have he : es.toList = [] := by
        generalize es.toList = l at g5
        cases g5
        rfl
      have rd : Reads s.heap (.ref a) (.dict []) (a :: [] ++ []) := Reads.dict (es := es) (n := ep) g1 g2.1 g3 (by rw [he]; exact .nil) (by rw [he]; exact .nil)
      exact wp_repr hu hg I rd rfl (by decide) (by decide +kernel) (fun _ z => by
        have z' : sysModules ∈ [a] := z
        have e : sysModules = a := List.mem_singleton.mp z'
        rw [← e] at hsm
        exact absurd hsm (by decide)) qq
    · split at hx
      · rename_i p hp
        exact gen p hp hx
      · cases hx
end
end L3

set_option Elab.async false
set_option linter.all false
set_option maxRecDepth 100000
set_option maxHeartbeats 1000000
namespace L3
open PySem L2
section
variable {X : Cx} {K : PySem.W.Frag} {W : WX} {e a b c o : Expr} {es : List Expr} {t : TE} {pos : Pos}
variable {k n : Nat} {f C g pp : Addr} {fd : FuncData} {ps ks : List Str} {ff : Fn} {dvs : List V} {dvl : List Value} {dd : List D} {x m : Str} {p apos kpos : Pos} {kws : List Keyword}
/-- // by any number but 0 -/
def CDivF (_ j : Int) : Prop := j ≠ 0 ∧ j.natAbs.log2 < 9000
theorem o_fdivF : OpR X (binaryOp .FloorDiv) (Op2 K (oI CDivF fun i j => .int (i.fdiv j))) := fun pins s σ H x y u v Q I rx ry h => by
  obtain ⟨F, d, e, P, sF, r1, r2, ⟨i, j, rfl, rfl, hc, q⟩, kk⟩ := h
  cases (show x = .int i from r1)
  cases (show y = .int j from r2)
  obtain ⟨t, rfl⟩ := (show ∃ t, u = Value.int i t from rx)
  obtain ⟨t', rfl⟩ := (show ∃ t, v = Value.int j t from ry)
  exact PyProof.Rows.floordiv_int hc.1 ⟨.int (i.fdiv j), H, I.tok _, ⟨_, rfl⟩, kk _ q _ F H (Ext.refl sF) rfl⟩ (.inl (PyProof.noPylong_of_log2 hc.2))
/-- the call of an operator's def of one tree -/
theorem run_own1 {pins : List (Addr × Obj)} {σ : L2.St} {H F : Hp} {s : Shared} {d1 : D} {x : V} {u : Value} {P : D → Prop} {QQ : Value → Shared → Prop} {A : Around} {E : Value → Shared → Prop} (Fk : FnG X.prog X.w X.K X.mg X.base (L2.CX X.prog X.w) k f fd ps (spF X.K 1 ff)) (hr : RmG k A) (hA : A.frames = X.A.frames) (hb : Binds X.K fd ps [])
    (I : Inv X pins σ H s) (sF : Same F H) (r1 : Rep X.K F d1 x) (rx : RelV x u) (q : ff [.v d1] (fun r _ => P (rvD r)) (fun _ _ => False))
    (kk : ∀ z, P z → ∀ w (u : Value) F' H' s', Inv X pins σ H' s' → RelV w u → Ext F H F' H' → Rep X.K F' z w → QQ u s') : wpAny (model X.prog X.w) A (call (.ref f) [u]) QQ E s := by
  have rr : Reps X.K F [d1] [x] := Reps.cons r1 rfl
  have hsp : spF X.K 1 ff [x] H (fun w H' => ∃ z F', P z ∧ Ext F H F' H' ∧ Rep X.K F' z w) E0 :=
    ⟨F, fun _ => none, _, _, _, rfl, sF, (fun _ _ z => by cases z), rs_args rr, q, fun rv fin h w F' H' wf _ ok => by
      have ex := ext_of_call wf (Same.refl _) fun i x z => by cases z
      cases rv with
      | d d => exact ⟨d, F', h, ex, ok⟩
      | l xs =>
        obtain ⟨p, rfl, ⟨nF, vs, hp, rr'⟩, h0⟩ := ok
        have s2 : Same F' (upd F' p (.lst vs)) := fun a o e => by rw [upd_ne (ne_of_none e nF)]; exact e
        refine ⟨.lst xs, upd F' p (.lst vs), h, ⟨ex.ff.trans s2, fun a o e => ?_, ex.hh, fun a o e => ?_⟩, p, vs, rfl, .inl (.inl upd_same), rr'.mono s2⟩
        · by_cases z : a = p
          · subst z; rw [upd_same] at e; cases e; exact hp
          · rw [upd_ne z] at e; exact ex.fh a o e
        · by_cases z : a = p
          · subst z; exact .inr h0
          · rw [upd_ne z] at e; exact ex.new a o e, fun er fin z => z.elim⟩
  have hlen := Fk.len _ _ _ _ hsp
  have b := hb s [u] I.kIn (by simpa using hlen)
  rw [List.append_nil] at b
  refine wpAny_call (codeAny_mono (Fk.run A X.stack s H ⟨[u], []⟩ [u] [x] _ E0 hr (Env0.units I.env0 hA) b (.cons rx .nil) hsp) fun r s' hq => ?_)
  cases r with
  | error e =>
    have z : L2.CX X.prog X.w X.stack H s E0 e s' := hq
    obtain ⟨_, _, _, _, _, _, _, _, _, _, _, _, z⟩ := z
    exact z.elim
  | ok fl =>
    cases fl with
    | ret w =>
      obtain ⟨z, H', I', rz, y, F', hP, ex, rep⟩ := I.after hq
      exact kk y hP z w F' H' s' I' rz ex rep
    | next => exact False.elim hq
    | brk => exact False.elim hq
    | cont => exact False.elim hq
/-- -x of an own class -/
def oOwn1 (C : Addr) (f : Fn) : O1 := fun d P => (∃ ns xs, d = .obj C ns xs) ∧ f [.v d] (fun r _ => P (rvD r)) (fun _ _ => False)
theorem o_ownNeg (O : CmpIn X.K C f "__neg__") (Fk : FnG X.prog X.w X.K X.mg X.base (L2.CX X.prog X.w) k f fd ps (spF X.K 1 ff)) (hr : RmG k X.A) (hb : Binds X.K fd ps []) : UnR X (unaryOp .USub) (Op1 X.K (oOwn1 C ff)) := by
  intro pins s σ H x u Q I rx h
  obtain ⟨F, d, P, sF, r1, ⟨⟨ns, xs, rfl⟩, q⟩, kk⟩ := h
  obtain ⟨a, dx, vs, rfl, ha, hlv, rr⟩ := id r1
  cases (show u = Value.ref a from rx)
  obtain ⟨mA, J, _⟩ := ins_get I.hok (sF _ _ ha)
  obtain ⟨od, J, _⟩ := J.look
  have go := run_own1 (A := X.A) (E := X.xe) (QQ := EP X pins σ Q) Fk hr rfl hb I sF r1 (u := .ref a) rfl q fun z hz w u F' H' s' I' rw' ex rep => ⟨w, H', I', rw', kk z hz w F' H' ex rep⟩
  unfold unaryOp
  refine wpAny_holding ?_
  show wpAny _ _ (if (UnaryOp.USub == UnaryOp.Not) = true then _ else _) _ _ s
  rw [if_neg (by decide)]
  refine wpAny_bind (PySem.W.special_fn I.kIn J O.at_ (beq_iff_eq.mp O.fn) (wpAny_mono go (fun v s' z => ?_) fun _ _ e => e))
  exact wpAny_pure z
end
end L3

set_option Elab.async false
set_option linter.all false
set_option maxRecDepth 100000
set_option maxHeartbeats 1000000
namespace L3
open PySem L2
section
variable {X : Cx} {K : PySem.W.Frag} {W : WX} {e a b c o : Expr} {es : List Expr} {t : TE} {pos : Pos}
/-! ### what is never reached -/
def wNo : Wt := fun _ _ _ => False
def wNoT : Wb := fun _ _ _ => False
theorem x_off : PE X e (Tr K W wNo) := ⟨fun pins s σ H Q I h => by
  obtain ⟨b, δ, F, Po, Px, wf, r, q, _⟩ := h
  exact q.elim⟩
theorem x_offT : PT X e (TrT K W wNoT) := ⟨fun pins s σ H Q I h => by
  obtain ⟨b, δ, F, Po, Px, wf, r, q, _⟩ := h
  exact q.elim⟩
theorem x_gl {x : Str} {p : Addr} (hm : X.mg x = some (.ref p)) (hg : Gl X x := by rfl) (hdb : (x == ("__debug__" : Str)) = false := by decide) : PE X (.Name x pos) (Tr K W (wC (.adr p))) := x_glob hg hm hdb
/-! ### a comparison as a test -/
def wTst (w : Wt) : Wb := fun δ Q Y => w δ (fun d δ1 => ∃ k, d = .bl k ∧ Q k δ1) Y
theorem x_tst {r : O2} {u w : Wt} {op : CmpOp} (ho : OpR X (compareOp op) (Op2 K r)) (ha : PE X a (Tr K W u)) (hb : PE X b (Tr K W w)) (hm : behindInMarks op b = false) : PT X (.Compare a [op] [b] pos) (TrT K W (wTst (wOp r u w))) :=
  pt_imp (pt_cmpR ho ha hb hm) fun σ H Q h => by
    refine tr_op (K := K) (W := W) (Q := fun x H' => ∃ k, x = .bl k ∧ Q k H') ?_
    obtain ⟨b, δ, F, Po, Px, wf, r, q, k, kx⟩ := h
    refine ⟨b, δ, F, _, _, wf, r, q, fun d δ1 q1 x F1 H1 wf1 s1 r1 rx => ?_, kx⟩
    obtain ⟨c, rfl, q2⟩ := q1
    exact ⟨c, rx, k c δ1 q2 F1 H1 wf1 s1 r1⟩
/-! ### the same where an exception is handled -/
theorem o_eqU (hu : X.A.units + 64 < cLine) : OpR X (compareOp .Eq) (Op2 X.K oEqD) := op_of (op_eqD hu) fun x y H Q h => by
  obtain ⟨F, d, e, P, sF, r1, r2, ⟨p, q, h1, h2, s1, s2, q1⟩, kk⟩ := h
  exact ⟨p, q, dp_of sF r1 h1, dp_of sF r2 h2, s1, s2, kk _ q1 _ F H (Ext.refl sF) rfl⟩
theorem o_neU (hu : X.A.units + 64 < cLine) : OpR X (compareOp .NotEq) (Op2 X.K oNeD) := op_of (op_neD hu) fun x y H Q h => by
  obtain ⟨F, d, e, P, sF, r1, r2, ⟨p, q, h1, h2, s1, s2, q1⟩, kk⟩ := h
  exact ⟨p, q, dp_of sF r1 h1, dp_of sF r2 h2, s1, s2, kk _ q1 _ F H (Ext.refl sF) rfl⟩
theorem un_of {A : Around} {k : Nat} (hr : RmG k A) : A.units + 200 < cLine := by have := hr.r.un; omega
theorem blk_of {X : Cx} {N : List Str} {sc scope : Scope} {own : List (Str × Nat)} (hN : X.N = N) (hs : X.env.scope = sc) (h : BlkOk N sc scope own) : BlkOk X.N X.env.scope scope own := by
  rw [hN, hs]; exact h
/-! ### an own __init__ -/
def fnInit (n m : Nat) (w : Ws) : Fn := fun as R Y => fnOf n m w as (fun r δ => r = .d .non ∧ R r δ) Y
theorem _root_.L2.FnG.weak {P : Program} {w : World} {mg : Str → Option Value} {base : Heap} {CX : CXT} {k : Nat} {f : Addr} {fd : FuncData} {ps : List Str} {sp sp' : Sp} (F : FnG P w K mg base CX k f fd ps sp) (h : ∀ vs H Q E, sp' vs H Q E → sp vs H Q E) : FnG P w K mg base CX k f fd ps sp' :=
  ⟨fun vs H Q E q => F.len vs H Q E (h _ _ _ _ q), fun A outer s H args us vs Q E hr e0 hb rv q => F.run A outer s H args us vs Q E hr e0 hb rv (h _ _ _ _ q)⟩
theorem _root_.L2.FnG.init {P : Program} {w : World} {mg : Str → Option Value} {base : Heap} {CX : CXT} {k n m : Nat} {f : Addr} {fd : FuncData} {ps : List Str} {u : Ws} (F : FnG P w K mg base CX k f fd ps (spF K n (fnOf n m u))) : FnG P w K mg base CX k f fd ps (spF K n (fnInit n m u)) :=
  L2.FnG.weak F fun vs H Q E h => by
    obtain ⟨F, P, as, R, Y, hl, sF, pn, r, q, k1, k2⟩ := h
    exact ⟨F, P, as, _, Y, hl, sF, pn, r, q, fun rv fin q => k1 rv fin q.2, k2⟩
theorem hn_init {n m : Nat} {u : Ws} : ∀ as R Y, fnInit n m u as R Y → fnInit n m u as (fun r fin => r = .d .non ∧ R r fin) Y := fun as R Y h => by
  have e : (fun (r : Rv) (δ : List S) => r = .d .non ∧ (r = .d .non ∧ R r δ)) = (fun (r : Rv) (δ : List S) => r = .d .non ∧ R r δ) := by
    funext r δ
    exact propext ⟨fun z => z.2, fun z => ⟨z.1, z⟩⟩
  unfold fnInit at h ⊢
  rw [e]
  exact h
theorem hf_init {n m : Nat} {u : Ws} : ∀ as R Y, fnInit n m u as R Y → as.length = n := fun _ _ _ h => h.1
theorem hf_of {n m : Nat} {u : Ws} : ∀ as R Y, fnOf n m u as R Y → as.length = n := fun _ _ _ h => h.1
theorem hdd0 : ∀ F, Reps K F [] [] := fun _ => rfl
theorem hdd1 {i : Int} : ∀ F, Reps K F [D.int i] [V.int i] := fun _ => Reps.cons rfl rfl
/-! ### the built-ins' rules by name -/
def zAbs : OC := fun ds P => ∃ i, ds = [.int i] ∧ P (.int (if i < 0 then -i else i))
def zLen : OC := fun ds P => ∃ d xs, ds = [d] ∧ itemsOf d = some xs ∧ P (.int xs.length)
def zMax : OC := fun ds P => ∃ i j, ds = [.int i, .int j] ∧ P (.int (if j > i then j else i))
def zMin : OC := fun ds P => ∃ i j, ds = [.int i, .int j] ∧ P (.int (if j < i then j else i))
def zInt : OC := fun ds P => (∃ i, ds = [.int i] ∧ P (.int i)) ∨ ∃ k, ds = [.bl k] ∧ P (.int (if k then 1 else 0))
def zGcd : OC := fun ds P => ∃ i j, ds = [.int i, .int j] ∧ P (.int ((Nat.gcd i.natAbs j.natAbs : Nat) : Int))
def zIsi (K : PySem.W.Frag) : OC := fun ds P => ∃ d c t u k, ds = [d, c] ∧ clsU c = some u ∧ tyD d = some t ∧ tyOk K d ∧ PySem.W.kitOne K t u = some k ∧ P (.bl k)
def zRepr : OC := fun ds P => ∃ d x, ds = [d] ∧ reprD d = some x ∧ P (.str x)
end
end L3

set_option Elab.async false
set_option linter.all false
set_option maxRecDepth 100000
set_option maxHeartbeats 1000000
/-! what the top has written, as checks over the written part; the end of a law -/
namespace L3
open PySem PySem.Spec PyProof.Rows L2
abbrev Ck := PySem.W.Frag → Bool
section
variable {K : PySem.W.Frag} {h : Heap} {mg : Str → Option Value}
theorem ba {a b : Bool} (h : (a && b) = true) : a = true ∧ b = true := Bool.and_eq_true_iff.mp h
def eqV {α : Type} [DecidableEq α] (a b : α) : Bool := decide (a = b)
theorem eqV_ok {α : Type} [DecidableEq α] {a b : α} (h : eqV a b = true) : a = b := of_decide_eq_true h
def kFa (f : He.Fa) : Ck := fun K => f.ok K
def kBui (x : Str) (id : String) : Ck := fun K => eqV (PySem.W.nsIn K mainGlobals x) (some (some (.builtin id)))
theorem kBui_ok (X : K.In h) (G : h.Ns mainGlobals mg) {x : Str} {id : String} (c : kBui x id K = true) : mg x = some (.builtin id) := PySem.W.mg_of X G (eqV_ok c)
/-- a property's getter -/
def gP (K : PySem.W.Frag) (p : Addr) : Addr := match PySem.W.recIn K p "property" with
  | some (.ref g :: _) => g
  | _ => 0
def kProp (x m : Str) : Ck := fun K => eqV (PySem.W.findIn K (.ref (He.ga K x)) m) (some (some (.ref (He.ma K (He.ga K x) m)))) && (eqV (PySem.W.specialIn K (.ref (He.ma K (He.ga K x) m)) "__get__") (some (some (.builtin "property.__get__"))) &&
  (eqV (PySem.W.takesIn K (.ref (He.ma K (He.ga K x) m))) (some true) && (match PySem.W.recIn K (He.ma K (He.ga K x) m) "property" with
  | some (.ref _ :: _) => true
  | _ => false)))
theorem kProp_ok {x m : Str} (c : kProp x m K = true) : PropOf K (He.ga K x) m (He.ma K (He.ga K x) m) (gP K (He.ma K (He.ga K x) m)) := by
  obtain ⟨c1, c⟩ := ba c
  obtain ⟨c2, c⟩ := ba c
  obtain ⟨c3, c4⟩ := ba c
  refine ⟨eqV_ok c1, eqV_ok c2, eqV_ok c3, ?_⟩
  unfold gP
  cases e : PySem.W.recIn K (He.ma K (He.ga K x) m) "property" with
  | none => rw [e] at c4; cases c4
  | some l =>
    rw [e] at c4
    cases l with
    | nil => cases c4
    | cons v r =>
      cases v with
      | ref g => exact ⟨r, rfl⟩
      | _ => cases c4
def kCmp (x m : Str) : Ck := fun K => eqV (PySem.W.findIn K (.ref (He.ga K x)) m) (some (some (.ref (He.ma K (He.ga K x) m)))) && PySem.W.isFn K (.ref (He.ma K (He.ga K x) m))
theorem kCmp_ok {x m : Str} (c : kCmp x m K = true) : CmpIn K (He.ga K x) (He.ma K (He.ga K x) m) m := by
  obtain ⟨c1, c2⟩ := ba c
  exact ⟨eqV_ok c1, c2⟩
def kOp (x m : Str) (nm : String) : Ck := fun K => eqV (PySem.dunder nm) m && (kCmp x m K && (PySem.W.selfFirst K (He.ga K x) && (eqV (PySem.W.findIn K (.ref (He.ga K x)) (dunderR nm)) (some none) &&
  ((PySem.W.findIn K (.type "int") (PySem.dunder nm)).isSome && ((PySem.W.findIn K (.type "int") (dunderR nm)).isSome && eqV (PySem.W.subIn K (.type "int") (.ref (He.ga K x))) (some false))))))
theorem kOp_ok {x m : Str} {nm : String} (c : kOp x m nm K = true) : OpIn K (He.ga K x) (He.ma K (He.ga K x) m) nm := by
  obtain ⟨c0, c⟩ := ba c
  obtain ⟨c1, c⟩ := ba c
  obtain ⟨c2, c⟩ := ba c
  obtain ⟨c3, c⟩ := ba c
  obtain ⟨c4, c⟩ := ba c
  obtain ⟨c5, c6⟩ := ba c
  obtain ⟨d1, d2⟩ := kCmp_ok c1
  exact ⟨c2, by rw [eqV_ok c0]; exact d1, d2, eqV_ok c3, Option.isSome_iff_exists.mp c4, Option.isSome_iff_exists.mp c5, eqV_ok c6⟩
def kNe (x : Str) : Ck := fun K => eqV (PySem.W.findIn K (.ref (He.ga K x)) "__ne__") (some (some (.builtin "object.__ne__")))
theorem kNe_ok {x : Str} (c : kNe x K = true) : PySem.W.findIn K (.ref (He.ga K x)) "__ne__" = some (some (.builtin "object.__ne__")) := eqV_ok c
def kOb (x : Str) : Ck := fun K => eqV (PySem.W.subIn K (.ref (He.ga K x)) (.type "object")) (some true)
theorem kOb_ok {x : Str} (c : kOb x K = true) : PySem.W.subIn K (.ref (He.ga K x)) (.type "object") = some true := eqV_ok c
theorem er0_of (X : K.In h) (G : h.Ns mainGlobals mg) {x : Str} (c1 : kFa (.exc x) K = true) (c2 : kFa (.glo x) K = true) : Er0 K mg (He.ga K x) x := by
  obtain ⟨a1, a2, a3, a4⟩ := He.exc_ok c1
  exact ⟨a1, He.glo_ok X G c2, a2, a3, a4⟩
def oexB (K : PySem.W.Frag) (C : Addr) : Bool := (match K.lookup C with
  | some ⟨.type t, _, .cls ⟨_, _, .ref C' :: bm, _, _, true, _, _, _, _, false⟩, sl⟩ => eqV t "type" && (eqV C' C && (PySem.HandSPX.refsVE bm && (match sl.toList with
    | [_, _, _, _, some (.builtin n), _] => eqV n "ValueError.__new__"
    | _ => false)))
  | _ => false) && (eqV (PySem.W.findIn K (.ref C) "__setattr__") (some (some (.builtin "object.__setattr__"))) && (eqV (PySem.W.subIn K (.ref C) (.type "BaseException")) (some true) && (eqV (PySem.W.typeIn K (.ref C)) (some (.type "type")) && PySem.W.keepIn K (.ref C))))
theorem oexB_ok {C : Addr} (c : oexB K C = true) : OexC K C := by
  obtain ⟨c1, c⟩ := ba c
  obtain ⟨c2, c⟩ := ba c
  obtain ⟨c3, c⟩ := ba c
  obtain ⟨c4, c5⟩ := ba c
  refine ⟨?_, eqV_ok c2, eqV_ok c3, eqV_ok c4, c5⟩
  split at c1
  · rename_i t dd nm bs C' bm ns q sn sub ab col sl e
    obtain ⟨d1, d⟩ := ba c1
    obtain ⟨d2, d⟩ := ba d
    obtain ⟨d3, d4⟩ := ba d
    split at d4
    · rename_i k0 k1 k2 k3 n k5 es
      have e1 : t = "type" := eqV_ok d1
      have e2 : C' = C := eqV_ok d2
      have e3 : n = "ValueError.__new__" := eqV_ok d4
      subst e1 e2 e3
      have es' : sl = #[k0, k1, k2, k3, some (.builtin "ValueError.__new__"), k5] := by
        apply Array.ext'
        exact es
      subst es'
      exact ⟨nm, q, ns, bs, bm, sn, sub, ab, col, dd, k0, k1, k2, k3, k5, e, d3⟩
    · cases d4
  · cases c1
def kEr1 (x fld : Str) : Ck := fun K => oexB K (He.ga K x) && (eqV (PySem.W.findIn K (.ref (He.ga K x)) "__init__") (some (some (.ref (He.ma K (He.ga K x) "__init__")))) && (eqV (PySem.W.typeIn K (.ref (He.ma K (He.ga K x) "__init__"))) (some (.type "function")) &&
  (eqV (PySem.W.findIn K (.ref (He.ga K x)) fld) (some none) && xfB K (He.ga K x))))
theorem er1_of (X : K.In h) (G : h.Ns mainGlobals mg) {x fld : Str} (c1 : kEr1 x fld K = true) (c2 : kFa (.glo x) K = true) : Er1 K mg (He.ga K x) (He.ma K (He.ga K x) "__init__") x fld := by
  obtain ⟨a1, c⟩ := ba c1
  obtain ⟨a2, c⟩ := ba c
  obtain ⟨a3, c⟩ := ba c
  obtain ⟨a4, a5⟩ := ba c
  exact ⟨oexB_ok a1, He.glo_ok X G c2, eqV_ok a2, eqV_ok a3, eqV_ok a4, xfB_ok a5⟩
def kXf (x : Str) : Ck := fun K => xfB K (He.ga K x)
theorem kXf_ok {x : Str} (c : kXf x K = true) : XfC K (He.ga K x) := xfB_ok c
/-- a type by its name, a class of the module's -/
inductive Tn where
  | t (n : String) | c (x : Str)
def Tn.v (K : PySem.W.Frag) : Tn → Value
  | .t n => .type n
  | .c x => .ref (He.ga K x)
def kKit (a b : Tn) (r : Bool) : Ck := fun K => eqV (PySem.W.kitOne K (a.v K) (b.v K)) (some r)
theorem kKit_ok {a b : Tn} {r : Bool} (c : kKit a b r K = true) : PySem.W.kitOne K (a.v K) (b.v K) = some r := eqV_ok c
def kNf (x : Str) (t : Tn) : Ck := fun K => PySem.W.notFirst K (He.ga K x) (t.v K)
theorem kNf_ok {x : Str} {t : Tn} (c : kNf x t K = true) : PySem.W.notFirst K (He.ga K x) (t.v K) = true := c
def kIsi (x : Str) : Ck := fun K => kFa (.cls x) K && (eqV (PySem.W.findIn K (.ref (He.ga K x)) "__class__") (some (some (.builtin "object.__class__"))) && (eqV (PySem.W.specialIn K (.builtin "object.__class__") "__get__") (some (some (.builtin "getset_descriptor.__get__"))) &&
  (eqV (PySem.W.takesIn K (.builtin "object.__class__")) (some true) && eqV (PySem.W.mroIn K (He.ga K x) (.type "object")) (some true))))
theorem kIsi_ok {x : Str} (c : kIsi x K = true) : IsiC K (He.ga K x) := by
  obtain ⟨a1, c⟩ := ba c
  obtain ⟨a2, c⟩ := ba c
  obtain ⟨a3, c⟩ := ba c
  obtain ⟨a4, a5⟩ := ba c
  exact ⟨fun H a dx fs e => .base (.ins e (He.cls_ok a1) (eqV_ok a2) (eqV_ok a3) (eqV_ok a4) (eqV_ok a5))⟩
end
/-! ### defs, where they stand told by a function of the written part -/
structure DefP where
  adr : PySem.W.Frag → Addr
  name : Str
  qual : Str
  st : Stmt
  dfl : List Int := []
abbrev FnX : Type := Option (Str × Str × Arguments × FuncBody × Scope × Addr × List (Str × Addr) × Addr)
def fnX (K : PySem.W.Frag) (a : Addr) : FnX := match K.lookup a with
  | some ⟨_, _, .func fd, _⟩ => some (fd.name, fd.qualname, fd.params, fd.body, fd.scope, fd.globals, fd.closure, fd.builtins)
  | _ => none
def DefP.val (d : DefP) : FnX := some (d.name, d.qual, defArgs d.st, .stmts (defBody d.st), defScope d.st, mainGlobals, [], builtinsNs)
def DefP.ok (K : PySem.W.Frag) (d : DefP) : Bool := PySem.W.keepIn K (.ref (d.adr K)) && (match K.lookup (d.adr K) with
  | some ⟨_, _, .func fd, _⟩ => PySem.W.codeIn K fd.code d.qual && He.dflB K fd.defaults (d.dfl.map V.int)
  | _ => false)
theorem DefP.funD {K : PySem.W.Frag} {d : DefP} (e : fnX K (d.adr K) = d.val) (c : d.ok K = true) : ∃ fd, FunD K d.name d.qual (defArgs d.st) (defBody d.st) (defScope d.st) (d.dfl.map V.int) [] (d.adr K) fd := by
  obtain ⟨kp, c2⟩ := ba c
  unfold fnX at e
  cases q : K.lookup (d.adr K) with
  | none => rw [q] at c2; cases c2
  | some o =>
    obtain ⟨oc, od, dt, osl⟩ := o
    rw [q] at c2 e
    cases dt with
    | func fd =>
      obtain ⟨n1, n2, n3, n4, n5, n6, n7, n8, n9, n10, n11, n12, n13, n14, n15⟩ := fd
      have e2 : (some (n1, n2, n3, n4, n5, n6, n7, n15) : FnX) = some (d.name, d.qual, defArgs d.st, .stmts (defBody d.st), defScope d.st, mainGlobals, [], builtinsNs) := e
      simp only [Option.some.injEq, Prod.mk.injEq] at e2
      obtain ⟨h1, h2, h3, h4, h5, h6, h7, h8⟩ := e2
      subst h1 h2 h3 h4 h5 h6 h7 h8
      obtain ⟨k1, k3⟩ := ba (show (PySem.W.codeIn K n13 d.qual && He.dflB K n8 (d.dfl.map V.int)) = true from c2)
      exact ⟨_, ⟨oc, od, n8, n9, n10, n11, n12, n13, n14, osl, rfl, q, k1, He.dflB_ok k3, .inl rfl⟩, kp⟩
    | _ => cases c2
theorem fun_of_D {K : PySem.W.Frag} {x qual : Str} {st : Stmt} {f : Addr} {fd : FuncData} (F : FunD K x qual (defArgs st) (defBody st) (defScope st) [] [] f fd) : L2.Fun K x qual st f fd := by
  obtain ⟨⟨oc, od, dV, kV, doc, pm, an, cdv, ct, osl, rfl, lk, hcd, hD, hK⟩, kp⟩ := F
  rcases hD with ⟨_, rfl⟩ | ⟨e, _⟩
  · exact ⟨⟨oc, od, kV, doc, pm, an, cdv, ct, osl, rfl, lk, hcd⟩, kp⟩
  · exact absurd rfl e
abbrev AlP : Type := Bool × List FnX
def obsP (ck : List Ck) (fn : List DefP) (K : PySem.W.Frag) : AlP := ((ck.all fun f => f K) && fn.all fun d => d.ok K, fn.map fun d => fnX K (d.adr K))
def valP (fn : List DefP) : AlP := (true, fn.map DefP.val)
def SaysP (ck : List Ck) (fn : List DefP) (K : PySem.W.Frag) : Prop := obsP ck fn K = valP fn
def obsPG (n : Nat) (ck : List Ck) (fn : List DefP) (g : Addr → Option Obj) : AlP := obsP ck fn (He.frG g (He.asD g n))
def hookP (n : Nat) (ck : List Ck) (fn : List DefP) : PySem.W.Hook where
  α := AlP
  obs := fun s => obsPG n ck fn s.heap.get?
  val := fun _ => valP fn
  says := fun _ h => ∃ K : PySem.W.Frag, K.In h ∧ SaysP ck fn K
  of := fun _ _ e => ⟨_, He.frG_in, e⟩
  keeps := fun _ _ _ ⟨K, hK, c⟩ k => ⟨K, PySem.W.Frag.In.keeps hK k, c⟩
theorem obsPG_eq {n : Nat} {ck : List Ck} {fn : List DefP} {g : Addr → Option Obj} {s : Shared} (h : ∀ a, g a = s.heap.get? a) : obsPG n ck fn g = (hookP n ck fn).obs s := by
  have e : g = s.heap.get? := funext h
  rw [e] <;> rfl
section
variable {ck : List Ck} {fn : List DefP} {K : PySem.W.Frag}
theorem SaysP.fact (c : SaysP ck fn K) (i : Nat) {f : Ck} (h : ck[i]? = some f := by rfl) : f K = true := by
  have c1 := (ba (show ((ck.all fun f => f K) && fn.all fun d => d.ok K) = true from congrArg (fun z : AlP => z.1) c)).1
  exact List.all_eq_true.mp c1 f (List.mem_of_getElem? h)
theorem SaysP.def_ (c : SaysP ck fn K) (i : Nat) {d : DefP} (h : fn[i]? = some d := by rfl) : ∃ fd, FunD K d.name d.qual (defArgs d.st) (defBody d.st) (defScope d.st) (d.dfl.map V.int) [] (d.adr K) fd := by
  have c2 := (ba (show ((ck.all fun f => f K) && fn.all fun d => d.ok K) = true from congrArg (fun z : AlP => z.1) c)).2
  have e : fn.map (fun d => fnX K (d.adr K)) = fn.map DefP.val := congrArg (fun z : AlP => z.2) c
  have e2 : (fn.map fun d => fnX K (d.adr K))[i]? = (fn.map DefP.val)[i]? := by rw [e]
  rw [List.getElem?_map, List.getElem?_map, h] at e2
  exact DefP.funD (Option.some.inj e2) (List.all_eq_true.mp c2 d (List.mem_of_getElem? h))
end
end L3

set_option Elab.async false
set_option linter.all false
set_option maxRecDepth 100000
set_option maxHeartbeats 1000000
/-! a law's end: its def keeps its promise where no repr is under way -/
namespace L3
open PySem PySem.Spec PyProof.Rows L2
section
variable {P : Program} {w : World} {K : PySem.W.Frag} {mg mb : Str → Option Value} {CX : CXT} {k : Nat} {fa scr : Addr} {fd : FuncData} {par : Str} {sp : Sp} {s1 : Shared} {its : List Value} {ns : List Int}
abbrev scrO (its : List Value) : Obj := { cls := .type "list", data := .seq its.toArray }
/-- nothing but the script is known -/
structure Bareish (P : Program) (w : World) (K : PySem.W.Frag) (H : Hp) (s1 : Shared) (scr : Addr) : Prop where
  only : L2.Only H
  ok : HOk P w H s1.heap
  here : ∀ b, H b ≠ none → b = scr
  notK : H scr ≠ none → K.lookup scr = none
theorem Bareish.run {H : Hp} (bb : Bareish P w K H s1 scr) (inK : K.In s1.heap) (gl : s1.heap.Ns mainGlobals mg) (bi : s1.heap.Ns builtinsNs mb) (bis : ∀ x : Str, x ≠ "__name__" → mb x = bootBuiltins x) (nl : s1.heap.NoLimit) (gens : s1.gens = #[])
    (at_ : s1.heap.get? scr = some (scrO its)) (room : RmG k callerA) (F : ∀ base : Heap, K.In base → base.Ns mainGlobals mg → FnG P w K mg base CX k fa fd [par] sp) (bnd : ∀ (s : Shared) (u : Value), BindsTo s fd ⟨[u], []⟩ [(par, u)])
    (good : sp [.ref scr] H (fun v _ => v = .bl true) fun _ _ _ => False) (noX : ∀ H e s', CX [] H s1 (fun _ _ _ => False) e s' → False) :
    codeAny (model P w) callerA (.call (.ref fa) ⟨[.ref scr], []⟩) (fun r s' => r = .ok (.ret (.bool true)) ∧ OldK s1.heap s'.heap ∧ s'.os = s1.os ∧ AllBare s'.gens) s1 := by
  have free : ∀ {b : Addr}, b ≠ scr → H b = none := fun {b} ne => Classical.byContradiction fun q => ne (bb.here b q)
  have keepB : ∀ {b : Addr} {o : Obj}, s1.heap.get? b = some o → H b = none → (hidT s1.heap H).get? b = some o := fun g n => hidT_get g n
  have dictFree : ∀ {b : Addr} {o : Obj} {es : Array DictEntry} {ep : Nat}, s1.heap.get? b = some o → o.data = .dict es ep → H b = none := fun {b o es ep} g d => free fun eq => by
    subst eq
    have eo := Option.some.inj (at_.symm.trans g)
    subst eo
    have d' : Data.seq its.toArray _ = Data.dict es ep := d
    cases d'
  have nsB : ∀ {b : Addr} {m : Str → Option Value}, s1.heap.Ns b m → (hidT s1.heap H).Ns b m := by
    intro b m ⟨o, es, ep, g, d, rest⟩
    exact ⟨o, es, ep, keepB g (dictFree g d), d, rest⟩
  have kB : K.In (hidT s1.heap H) := fun b o g => keepB (inK b o g) (Classical.byContradiction fun q => by
    have eq := bb.here b q
    subst eq
    rw [bb.notK q] at g
    cases g)
  obtain ⟨ml, l1, l2⟩ := nl
  have env : Env0 P w K mg (hidT s1.heap H) callerA [] s1 H := ⟨rfl, ⟨kB, nsB gl, ⟨mb, nsB bi, bis⟩, ml, nsB l1, l2⟩, fun _ _ g => of_hidT g, Nat.le_of_eq (hidT_size _ _), trivial, fun b hb => (List.not_mem_nil hb).elim, bb.ok, AllBare.of_eq gens⟩
  refine codeAny_mono ((F _ kB (nsB gl)).run callerA [] s1 H ⟨[.ref scr], []⟩ [.ref scr] [.ref scr] _ _ room env (bnd s1 (.ref scr)) (.cons rfl .nil) good) ?_
  rintro (er | fl) s' out
  · exact (noX H er s' out).elim
  · cases fl with
    | ret u =>
      obtain ⟨v, H', h1, h2, un, h3, h4, rfl⟩ := out
      have eu : u = Value.bool true := h4
      subst eu
      refine ⟨rfl, OldK.of_keep fun b o g => ?_, h1, h2⟩
      rcases bb.only b with nb | ⟨ob, xs, fb⟩
      · exact un.keep b o g nb (List.not_mem_nil) (by simp)
      · obtain ⟨g1, _⟩ := bb.ok b _ fb
        obtain ⟨g2, _⟩ := h3 b _ (un.frzs b ob _ fb)
        exact (Option.some.inj (g.symm.trans g1)) ▸ g2
    | next => exact False.elim out
    | brk => exact False.elim out
    | cont => exact False.elim out
theorem law_G (inK : K.In s1.heap) (gl : s1.heap.Ns mainGlobals mg) (bi : s1.heap.Ns builtinsNs mb) (bis : ∀ x : Str, x ≠ "__name__" → mb x = bootBuiltins x) (nl : s1.heap.NoLimit) (gens : s1.gens = #[])
    (at_ : s1.heap.get? scr = some (scrO its)) (hin : IntsAre its ns) (len : ns.length ≤ sizeLine) (room : RmG k callerA) (F : ∀ base : Heap, K.In base → base.Ns mainGlobals mg → FnG P w K mg base CX k fa fd [par] sp) (bnd : ∀ (s : Shared) (u : Value), BindsTo s fd ⟨[u], []⟩ [(par, u)])
    (good : ∀ H : Hp, SqL K H scr (ns.map V.int) → sp [.ref scr] H (fun v _ => v = .bl true) fun _ _ _ => False) (noX : ∀ H e s', CX [] H s1 (fun _ _ _ => False) e s' → False) :
    codeAny (model P w) callerA (.call (.ref fa) ⟨[.ref scr], []⟩) (fun r s' => r = .ok (.ret (.bool true)) ∧ OldK s1.heap s'.heap ∧ s'.os = s1.os ∧ AllBare s'.gens) s1 := by
  have vals := vals_ints hin
  cases known : K.lookup scr with
  | some o =>
    have eo := Option.some.inj (at_.symm.trans (inK scr o known))
    subst eo
    have bb : Bareish P w K (fun _ => none) s1 scr := ⟨fun _ => .inl rfl, fun b u z => (by cases z), fun b z => absurd rfl z, fun z => absurd rfl z⟩
    exact bb.run inK gl bi bis nl gens at_ room F bnd (good _ (.inr ⟨_, its.toArray, _, known, rfl, rfl, rfl, by rw [List.size_toArray, hin.length]; exact len, by simpa using vals⟩)) noX
  | none =>
    let H : Hp := fun b => if b = scr then some (.frz (scrO its) (.lst (ns.map V.int))) else none
    have hs : H scr = some (.frz (scrO its) (.lst (ns.map V.int))) := if_pos rfl
    have hn : ∀ b, b ≠ scr → H b = none := fun b ne => if_neg ne
    have bb : Bareish P w K H s1 scr := ⟨fun b => by
        by_cases q : b = scr
        · subst q; exact .inr ⟨_, _, hs⟩
        · exact .inl (hn b q), fun b u z => (by
        by_cases q : b = scr
        · subst q
          rw [hs] at z
          cases z
          exact ⟨at_, by rw [List.length_map]; exact len, its, _, vals, at_⟩
        · rw [hn b q] at z
          cases z), fun b z => Classical.byContradiction fun q => z (hn b q), fun _ => known⟩
    exact bb.run inK gl bi bis nl gens at_ room F bnd (good H (.inl (.inr ⟨_, hs⟩))) noX
/-- the law's row, from the reading of its def over trees -/
theorem walk_G {l : PySem.W.OpenLaw} {n k : Nat} {q : Program} {loose : List Str} {XP : (Str → Option Value) → Heap → Prop} {YP : World → Heap → Prop} {d : DefRec} {par : Str} (hn : l.most = some n) (hn2 : n ≤ sizeLine) (hdf : d.params.defaults = []) (room : RmG k callerA)
    (F : ∀ (w : World) (mg : Str → Option Value) (fa : Addr) (h : Heap), YP w h → h.Ns mainGlobals mg → mg d.name = some (.ref fa) →
      ∃ (K : PySem.W.Frag) (fd : FuncData) (f : Fn), K.In h ∧ (∀ (s : Shared) (u : Value), BindsTo s fd ⟨[u], []⟩ [(par, u)]) ∧
        (∀ ns : List Int, ns.length ≤ n → f [.v (.lst (ns.map D.int))] (fun r _ => rvD r = .bl true) (fun _ _ => False)) ∧
        ∀ base : Heap, K.In base → base.Ns mainGlobals mg → FnG l.prog w K mg base (L2.CX l.prog w) k fa fd [par] (spF K 1 f)) :
    PySem.W.WalkO q loose XP YP l.row.toRowW d [] (fun f vs => PySem.call f vs) := by
  refine Att.attach_call hn hdf fun w s0 s1 mg mb fa o pm cd doc a vs ns G Y ho hd hcd hmg hobj hints hlen hg => ?_
  obtain ⟨K, fd, f, inK, bnd, good, hF⟩ := F w mg fa _ Y G.T.g hmg
  refine law_G inK G.T.g G.T.b G.T.builtins G.T.nolimit hg hobj hints (Nat.le_trans hlen hn2) room hF bnd (fun H hS => ?_) fun H e s' z => by
    obtain ⟨_, _, _, _, _, _, _, _, _, _, _, _, z⟩ := z
    exact z
  have rep : ∀ l : List Int, Reps K H (l.map D.int) (l.map V.int) := fun l => by
    induction l with
    | nil => rfl
    | cons i l ih => exact Reps.cons rfl ih
  refine ⟨H, fun _ => none, _, _, _, rfl, Same.refl _, (fun _ _ z => by cases z), rs_args (ds := [.lst (ns.map D.int)]) (vs := [.ref a]) (Reps.cons ⟨a, _, rfl, hS, rep ns⟩ rfl), good ns hlen, fun r fin z v F' H' wf _ ok => ?_, fun er fin z => z.elim⟩
  cases r with
  | d d =>
    have e : d = .bl true := z
    subst e
    exact ok
  | l xs => cases z
end
end L3
namespace L3
open PySem PySem.Spec PyProof.Rows L2
theorem binds_all {K : PySem.W.Frag} {fd : FuncData} {ps : List Str} {v : V} (h : ∃ ds, Vals (List.drop 1 [v]) ds ∧ Binds K fd ps ds) : Binds K fd ps [] := by
  obtain ⟨ds, r, b⟩ := h
  cases (show Vals [] ds from r)
  exact b
theorem bindsA1 {K : PySem.W.Frag} {x qual par : Str} {st : Stmt} {f : Addr} {fd : FuncData} (F : L2.Fun K x qual st f fd)
    (h : ∀ (kV doc pm : Value) (an : Option Addr) (cdv ct : Value) (us : List Value), us.length = ([par] : List Str).length → bindArgs (PySem.W.fnOf x qual (defArgs st) (defBody st) (defScope st) .none kV doc pm an cdv ct) ⟨us, []⟩ = pure (([par] : List Str).zip us)) (s : Shared) (u : Value) : BindsTo s fd ⟨[u], []⟩ [(par, u)] := by
  obtain ⟨oc, od, kV, doc, pm, an, cdv, ct, osl, rfl, lk, hcd⟩ := F.ex
  exact .of_eq (h kV doc pm an cdv ct [u] rfl)
end L3

set_option Elab.async false
set_option linter.all false
set_option maxRecDepth 100000
set_option maxHeartbeats 1000000
/-! the readings, step by step -/
namespace L3
open PySem L2
section
variable {K : PySem.W.Frag} {δ : List S} {Q : D → List S → Prop} {QL : List D → List S → Prop} {QA : List A → List S → Prop} {QB : Bool → List S → Prop} {Y : Er → List S → Prop} {E : DE} {a b u w : Wt} {ta tb : Wb} {as : Wa} {l : Wl} {s1 s2 : Ws} {i j : Nat} {d : D} {C : Addr} {m : Str} {f : Fn} {dd : List D}
theorem flag_ol {b k : Bool} {xs : List D} : (S.ol k xs).flag b = .ol b xs := rfl
theorem inp_ol {k : Bool} {xs : List D} : (S.ol k xs).inp = k := rfl
theorem rvD_d : rvD (.d d) = d := rfl
theorem rvD_l {xs : List D} : rvD (.l xs) = .lst xs := rfl
theorem r_var (h : δ[i]? = some (.v d)) (q : Q d δ) : wVar i δ Q Y := ⟨d, h, q⟩
theorem r_c (q : Q d δ) : wC d δ Q Y := q
theorem r_op {o : O2} (h : a δ (fun d δ1 => b δ1 (fun e δ2 => o d e fun z => Q z δ2) Y) Y) : wOp o a b δ Q Y := h
theorem r_un {o : O1} (h : a δ (fun d δ1 => o d fun z => Q z δ1) Y) : wUn o a δ Q Y := h
theorem r_tst (h : u δ (fun d δ1 => ∃ k, d = .bl k ∧ QB k δ1) Y) : wTst u δ QB Y := h
theorem r_tru (h : u δ (fun d δ1 => ∃ k, truD d = some k ∧ QB k δ1) Y) : wTru u δ QB Y := h
theorem r_andT (h : ta δ (fun c δ1 => if c = true then tb δ1 QB Y else QB false δ1) Y) : wAndT ta tb δ QB Y := h
theorem r_orT (h : ta δ (fun c δ1 => if c = true then QB true δ1 else tb δ1 QB Y) Y) : wOrT ta tb δ QB Y := h
theorem r_notT (h : ta δ (fun c δ1 => QB (!c) δ1) Y) : wNotT ta δ QB Y := h
theorem r_and (h : u δ (fun d δ1 => ∃ c, d = .bl c ∧ if c = true then w δ1 Q Y else Q (.bl false) δ1) Y) : wAnd u w δ Q Y := h
theorem r_or (h : u δ (fun d δ1 => ∃ c, d = .bl c ∧ if c = true then Q (.bl true) δ1 else w δ1 Q Y) Y) : wOr u w δ Q Y := h
theorem r_not (h : u δ (fun d δ1 => ∃ c, d = .bl c ∧ Q (.bl (!c)) δ1) Y) : wNot u δ Q Y := h
theorem r_if (h : ta δ (fun c δ1 => if c = true then u δ1 Q Y else w δ1 Q Y) Y) : wIf ta u w δ Q Y := h
theorem r_nil (q : QA [] δ) : wNil δ QA Y := q
theorem r_cons (h : u δ (fun d δ1 => as δ1 (fun xs δ2 => QA (.d d :: xs) δ2) Y) Y) : wCons u as δ QA Y := h
theorem r_tup (h : as δ (fun as δ1 => ∃ ds, trees as = some ds ∧ ds.length ≤ 1000 ∧ Q (.tup ds) δ1) Y) : wTup as δ Q Y := h
theorem r_lst (h : as δ (fun as δ1 => ∃ ds, trees as = some ds ∧ ds.length ≤ 1000 ∧ Q (.lst ds) δ1) Y) : wLst as δ Q Y := h
theorem r_lstO (h : as δ (fun as δ1 => ∃ ds, trees as = some ds ∧ ds.length ≤ 1000 ∧ QL ds δ1) Y) : wLstO as δ QL Y := h
theorem r_fz (h : l δ (fun xs δ1 => Q (.lst xs) δ1) Y) : wFz l δ Q Y := h
theorem r_call (h : as δ (fun as δ1 => ∃ ds, trees as = some ds ∧ f ((ds ++ dd).map S.v) (fun r _ => Q (rvD r) δ1) (fun er _ => Y er δ1)) Y) : wCall f dd as δ Q Y := h
theorem r_callL (h : as δ (fun as δ1 => ∃ ds, trees as = some ds ∧ f ((ds ++ dd).map S.v) (fun r _ => ∃ xs, r = .l xs ∧ QL xs δ1) (fun er _ => Y er δ1)) Y) : wCallL f dd as δ QL Y := h
theorem r_callW {h : Perm} {n : Nat} (q : as δ (fun as δ1 => ∃ ds, trees as = some ds ∧ ds.length = n ∧ f ((h ds).map S.v) (fun r _ => Q (rvD r) δ1) (fun _ _ => False)) Y) : wCallW f h n as δ Q Y := q
theorem r_make (h : as δ (fun as δ1 => ∃ ds, trees as = some ds ∧ f (.oo true C [] [] :: (ds ++ dd).map S.v) (fun r fin => ∃ ns xs, fin[0]? = some (.oo true C ns xs) ∧ Q (.obj C ns xs) δ1) (fun er _ => Y er δ1)) Y) : wMake C f dd as δ Q Y := h
theorem r_makeW {h : Perm} {n : Nat} (q : as δ (fun as δ1 => ∃ ds, trees as = some ds ∧ ds.length = n ∧ f (.oo true C [] [] :: (h ds).map S.v) (fun r fin => ∃ ns xs, fin[0]? = some (.oo true C ns xs) ∧ Q (.obj C ns xs) δ1) (fun _ _ => False)) Y) : wMakeW C f h n as δ Q Y := q
theorem r_meth (h : w δ (fun d δ1 => ∃ ns xs, d = .obj C ns xs ∧ m ∉ ns ∧ as δ1 (fun as δ2 => ∃ ds, trees as = some ds ∧ f ((d :: (ds ++ dd)).map S.v) (fun r _ => Q (rvD r) δ2) (fun er _ => Y er δ2)) Y) Y) : wMeth C m f dd w as δ Q Y := h
theorem r_methW {h : Perm} {n : Nat} (q : w δ (fun d δ1 => ∃ ns xs, d = .obj C ns xs ∧ m ∉ ns ∧ as δ1 (fun as δ2 => ∃ ds, trees as = some ds ∧ ds.length = n ∧ f ((d :: h ds).map S.v) (fun r _ => Q (rvD r) δ2) (fun _ _ => False)) Y) Y) : wMethW C m f h n w as δ Q Y := q
theorem r_prop (h : w δ (fun d δ1 => ∃ ns xs, d = .obj C ns xs ∧ f [.v d] (fun r _ => Q (rvD r) δ1) (fun _ _ => False)) Y) : wProp C f w δ Q Y := h
theorem r_fld (h : w δ (fun d δ1 => ∃ ns xs z, d = .obj C ns xs ∧ (ns.zip xs).lookup m = some z ∧ Q z δ1) Y) : wFld C m w δ Q Y := h
theorem r_cb {r : OC} (h : as δ (fun as δ1 => ∃ ds, trees as = some ds ∧ r ds fun z => Q z δ1) Y) : wCB r as δ Q Y := h
theorem r_ixO (h : (∃ s : S, δ[i]? = some s ∧ s.owned = true) ∧ w δ (fun e δ1 => ∃ k xs j z, e = .int j ∧ δ1[i]? = some (.ol k xs) ∧ atI xs j = some z ∧ Q z δ1) Y) : wIxO i w δ Q Y := h
theorem r_callB (h : (∃ s : S, δ[j]? = some s ∧ s.owned = true) ∧ as δ (fun as δ1 => ∃ ds s, trees as = some ds ∧ δ1[j]? = some s ∧ s.owned = true ∧ f (s.flag true :: (ds ++ dd).map S.v) (fun r fin => ∃ s' : S, fin[0]? = some s' ∧ s'.owned = true ∧ s'.inp = true ∧ Q (rvD r) (δ1.set j (s'.flag s.inp))) (fun _ _ => False)) Y) : wCallB j f dd as δ Q Y := h
theorem r_seq (h : s1 δ { E with nx := fun δ1 => s2 δ1 E }) : wSeq s1 s2 δ E := h
theorem r_nx (h : E.nx δ) : wNx δ E := h
theorem r_set (h : u δ (fun d δ1 => E.nx (δ1.set i (.v d))) E.xx) : wSet i u δ E := h
theorem r_setL (h : l δ (fun xs δ1 => E.nx (δ1.set i (.ol false xs))) E.xx) : wSetL i l δ E := h
theorem r_expr (h : u δ (fun _ δ1 => E.nx δ1) E.xx) : wExpr u δ E := h
theorem r_ret (h : u δ (fun d δ1 => E.rt (.d d) δ1) E.xx) : wRet u δ E := h
theorem r_retL (h : l δ (fun xs δ1 => E.rt (.l xs) δ1) E.xx) : wRetL l δ E := h
theorem r_ifS (h : ta δ (fun c δ1 => if c = true then s1 δ1 E else s2 δ1 E) E.xx) : wIfS ta s1 s2 δ E := h
theorem r_par (h : as δ (fun as δ1 => ∃ d d', trees as = some [d, d'] ∧ E.nx ((δ1.set i (.v d)).set j (.v d'))) E.xx) : wPar i j as δ E := h
theorem r_stF (h : w δ (fun d δ1 => ∃ k ns xs, δ1[i]? = some (.oo k C ns xs) ∧ ns.length < 1000 ∧ E.nx (δ1.set i (.oo k C (putD m d ns xs).1 (putD m d ns xs).2))) E.xx) : wStF i C m w δ E := h
theorem r_stO (h : u δ (fun d δ1 => (∃ s : S, δ1[i]? = some s ∧ s.owned = true) ∧ w δ1 (fun e δ2 => ∃ k xs j l, e = .int j ∧ δ2[i]? = some (.ol k xs) ∧ ixN xs.length j = some l ∧ E.nx (δ2.set i (.ol k (xs.set l d)))) E.xx) E.xx) : wStO i u w δ E := h
theorem r_for {wi : Wi} {g : Wg} (h : wi δ (fun items δ1 => loopD g s1 E items δ1) E.xx) : wFor wi g s1 δ E := h
theorem r_oI {C : Int → Int → Prop} {g : Int → Int → D} {x y : Int} {P : D → Prop} (c : C x y) (q : P (g x y)) : oI C g (.int x) (.int y) P := ⟨x, y, rfl, rfl, c, q⟩
theorem r_oIC {C : Int → Int → Prop} {g : Int → Int → D} {x y : Int} {P : D → Prop} (q : P (g x y)) (c : C x y) : oI C g (.int x) (.int y) P := ⟨x, y, rfl, rfl, c, q⟩
theorem r_oIT {g : Int → Int → D} {x y : Int} {P : D → Prop} (q : P (g x y)) : oI CT g (.int x) (.int y) P := ⟨x, y, rfl, rfl, True.intro, q⟩
theorem r_ite {p : Prop} [Decidable p] {A B : Prop} (h1 : p → A) (h2 : ¬ p → B) : if decide p = true then A else B := by
  by_cases c : p
  · rw [if_pos (decide_eq_true c)]; exact h1 c
  · rw [if_neg (by rw [decide_eq_false c]; exact Bool.false_ne_true)]; exact h2 c
theorem r_iteN {p : Prop} [Decidable p] {A B : Prop} (h1 : ¬ p → A) (h2 : p → B) : if (!decide p) = true then A else B := by
  by_cases c : p
  · rw [decide_eq_true c, if_neg (by simp)]; exact h2 c
  · rw [decide_eq_false c, if_pos (by simp)]; exact h1 c
theorem r_rng1 {QI : List D → List S → Prop} (h : as δ (fun as δ1 => ∃ j, trees as = some [.int j] ∧ -(2 ^ 62) ≤ j ∧ j < 2 ^ 62 ∧ QI (rangeD 0 j.toNat) δ1) Y) : wRng1 as δ QI Y := h
theorem r_iteS {p : Prop} [Decidable p] {A B : Prop} (h : ¬ p → B → A) (q : B) : if (!decide p) = true then A else B := r_iteN (fun c => h c q) fun _ => q
theorem r_iteP {A B : Prop} [Decidable True] (h : A) : if True then A else B := by rw [if_pos trivial]; exact h
theorem r_iteQ {A B : Prop} [Decidable False] (h : B) : if False then A else B := by rw [if_neg id]; exact h
theorem r_iteT {A B : Prop} (h : A) : if true = true then A else B := by rw [if_pos rfl]; exact h
theorem r_iteF {A B : Prop} (h : B) : if false = true then A else B := by rw [if_neg Bool.false_ne_true]; exact h
theorem r_fn {n m : Nat} {ws : Ws} {xs : List S} {R : Rv → List S → Prop} (hn : xs.length = n) (h : ws (xs ++ List.replicate m S.no) { nx := fun δ => R (.d .non) δ, rt := R, bk := fun _ => False, ct := fun _ => False, xx := Y }) : fnOf n m ws xs R Y := ⟨hn, h⟩
theorem r_init {n m : Nat} {ws : Ws} {xs : List S} {R : Rv → List S → Prop} (hn : xs.length = n) (h : ws (xs ++ List.replicate m S.no) { nx := fun δ => R (.d .non) δ, rt := fun r δ => r = .d .non ∧ R r δ, bk := fun _ => False, ct := fun _ => False, xx := Y }) : fnInit n m ws xs R Y := by
  refine ⟨hn, ?_⟩
  have e : (fun δ : List S => (Rv.d D.non = Rv.d D.non ∧ R (.d .non) δ)) = fun δ => R (.d .non) δ := by
    funext δ
    exact propext ⟨fun z => z.2, fun z => ⟨rfl, z⟩⟩
  rw [e]
  exact h
theorem r_eqI {x y : Int} {P : D → Prop} (q : P (.bl (decide (x = y)))) : oEqD (.int x) (.int y) P := ⟨.int x, .int y, rfl, rfl, rfl, rfl, by
  have e : PyData.eqv (.int x) (.int y) = decide (x = y) := by
    first | rfl | (unfold PyData.eqv; simp) | simp [PyData.eqv]
  rw [e]; exact q⟩
theorem r_abs {x : Int} {P : D → Prop} (q : P (.int (if x < 0 then -x else x))) : zAbs [.int x] P := ⟨x, rfl, q⟩
theorem r_int {x : Int} {P : D → Prop} (q : P (.int x)) : zInt [.int x] P := .inl ⟨x, rfl, q⟩
theorem r_max {x y : Int} {P : D → Prop} (q : P (.int (if y > x then y else x))) : zMax [.int x, .int y] P := ⟨x, y, rfl, q⟩
theorem r_min {x y : Int} {P : D → Prop} (q : P (.int (if y < x then y else x))) : zMin [.int x, .int y] P := ⟨x, y, rfl, q⟩
theorem r_gcd {x y : Int} {P : D → Prop} (q : P (.int ((Nat.gcd x.natAbs y.natAbs : Nat) : Int))) : zGcd [.int x, .int y] P := ⟨x, y, rfl, q⟩
theorem r_len {d : D} {xs : List D} {P : D → Prop} (h : itemsOf d = some xs) (q : P (.int xs.length)) : zLen [d] P := ⟨d, xs, rfl, h, q⟩
theorem r_repr {d : D} {x : Str} {P : D → Prop} (h : reprD d = some x) (q : P (.str x)) : zRepr [d] P := ⟨d, x, rfl, h, q⟩
theorem r_isi {d c : D} {t u : Value} {r : Bool} {P : D → Prop} (h1 : clsU c = some u) (h2 : tyD d = some t) (h3 : tyOk K d) (h4 : PySem.W.kitOne K t u = some r) (q : P (.bl r)) : zIsi K [d, c] P := ⟨d, c, t, u, r, rfl, h1, h2, h3, h4, q⟩
theorem r_ix {d e z : D} {xs : List D} {n : Int} {P : D → Prop} (h1 : itemsOf d = some xs) (h2 : e = .int n) (h3 : atI xs n = some z) (q : P z) : oIx d e P := ⟨xs, n, z, h1, h2, h3, q⟩
theorem r_neg {x : Int} {P : D → Prop} (q : P (.int (-x))) : (fun (d : D) (P : D → Prop) => ∃ i, d = .int i ∧ P (.int (-i))) (.int x) P := ⟨x, rfl, q⟩
theorem r_raise0 {E : DE} {C : Addr} {δ : List S} (q : E.xx (C, []) δ) : wRaise0 C δ E := q
theorem r_raise1 {E : DE} {C : Addr} {δ : List S} {fld : Str} {u : Wt} (q : u δ (fun d δ1 => E.xx (C, [(fld, d)]) δ1) E.xx) : wRaise1 C fld u δ E := q
theorem r_fldO {i : Nat} {C : Addr} {m : Str} {k : Bool} {ns : List Str} {xs : List D} {z : D} {δ : List S} {Q : D → List S → Prop} {Y : Er → List S → Prop} (h1 : δ[i]? = some (.oo k C ns xs)) (h2 : (ns.zip xs).lookup m = some z) (q : Q z δ) : wFldO i C m δ Q Y := ⟨k, ns, xs, z, h1, h2, q⟩
end
end L3
local macro_rules | `(tactic| walk_at "l3 step") => `(tactic| first
  | ((with_reducible apply L3.r_var); rfl) | with_reducible refine L3.r_c ?_ | with_reducible refine L3.r_op ?_ | with_reducible refine L3.r_un ?_ | with_reducible refine L3.r_tst ?_ | with_reducible refine L3.r_tru ?_ | with_reducible refine L3.r_andT ?_ | with_reducible refine L3.r_orT ?_ | with_reducible refine L3.r_notT ?_
  | with_reducible refine L3.r_and ?_ | with_reducible refine L3.r_or ?_ | with_reducible refine L3.r_not ?_ | with_reducible refine L3.r_if ?_
  | with_reducible refine L3.r_nil ?_ | with_reducible refine L3.r_cons ?_ | with_reducible refine L3.r_tup ?_ | with_reducible refine L3.r_lst ?_ | with_reducible refine L3.r_lstO ?_ | with_reducible refine L3.r_fz ?_ | with_reducible refine L3.r_call ?_ | with_reducible refine L3.r_callL ?_ | with_reducible refine L3.r_callW ?_
  | with_reducible refine L3.r_make ?_ | with_reducible refine L3.r_makeW ?_ | with_reducible refine L3.r_meth ?_ | with_reducible refine L3.r_methW ?_ | with_reducible refine L3.r_prop ?_ | with_reducible refine L3.r_fld ?_ | with_reducible refine L3.r_cb ?_
  | with_reducible refine L3.r_seq ?_ | with_reducible refine L3.r_nx ?_ | with_reducible refine L3.r_set ?_ | with_reducible refine L3.r_setL ?_ | with_reducible refine L3.r_expr ?_ | with_reducible refine L3.r_ret ?_ | with_reducible refine L3.r_retL ?_ | with_reducible refine L3.r_ifS ?_ | with_reducible refine L3.r_par ?_
  | with_reducible refine L3.r_stF ?_ | with_reducible refine L3.r_stO ?_ | with_reducible refine L3.r_for ?_ | with_reducible refine L3.r_rng1 ?_ | with_reducible refine L3.r_oIT ?_ | with_reducible refine L3.r_oIC ?_ ?_ | with_reducible refine L3.r_iteT ?_ | with_reducible refine L3.r_iteF ?_ | with_reducible refine L3.r_iteP ?_ | with_reducible refine L3.r_iteQ ?_ | with_reducible refine L3.r_eqI ?_
  | with_reducible refine L3.r_abs ?_ | with_reducible refine L3.r_int ?_ | with_reducible refine L3.r_max ?_ | with_reducible refine L3.r_min ?_ | with_reducible refine L3.r_gcd ?_ | with_reducible refine L3.r_raise0 ?_ | with_reducible refine L3.r_raise1 ?_
  | ((with_reducible apply L3.r_len); rfl) | ((with_reducible apply L3.r_ix); rfl; rfl; rfl) | ((with_reducible apply L3.r_fldO); rfl; rfl)
  | ((with_reducible refine L3.r_ixO (And.intro ?_ ?_)); exact ⟨_, rfl, rfl⟩) | ((with_reducible refine L3.r_callB (And.intro ?_ ?_)); exact ⟨_, rfl, rfl⟩)
  | ((with_reducible apply Exists.intro); (with_reducible apply And.intro); rfl)
  | ((with_reducible apply Exists.intro); (with_reducible apply Exists.intro); (with_reducible apply And.intro); rfl)
  | ((with_reducible apply Exists.intro); (with_reducible apply Exists.intro); (with_reducible apply Exists.intro); (with_reducible apply And.intro); rfl)
  | ((with_reducible apply Exists.intro); (with_reducible apply Exists.intro); (with_reducible apply Exists.intro); (with_reducible apply Exists.intro); (with_reducible apply And.intro); rfl)
  | ((with_reducible refine And.intro ?_ ?_); first | rfl | decide | exact Nat.le_of_ble_eq_true rfl | exact ⟨_, rfl, rfl⟩)
  | (with_reducible simp only [List.set_cons_zero, List.set_cons_succ, List.replicate_succ, List.replicate_zero, List.cons_append, List.nil_append, List.append_nil, List.map_cons, List.map_nil, Bool.not_true, Bool.not_false, L3.rvD_d, L3.rvD_l, L3.flag_ol, L3.inp_ol, decide_true, decide_false])
  | dsimp only)

set_option Elab.async false
set_option linter.all false
set_option maxRecDepth 100000
set_option maxHeartbeats 1000000
namespace K02
open PySem L2 L3
/-- the divisor that brings to lowest terms, a bottom above 0 -/
def gd (a b : Int) : Int := if b < 0 then -((Nat.gcd a.natAbs b.natAbs : Nat) : Int) else ((Nat.gcd a.natAbs b.natAbs : Nat) : Int)
def nm (a b : Int) : Int × Int := (a.fdiv (gd a b), b.fdiv (gd a b))
/-- fewer than k binary figures -/
def B (k : Nat) (a : Int) : Prop := a.natAbs < 2 ^ k
theorem B.mono {j k : Nat} {a : Int} (h : B j a) (q : j ≤ k) : B k a := Nat.lt_of_lt_of_le h (Nat.pow_le_pow_right (by omega) q)
theorem B.mul {j k : Nat} {a b : Int} (h : B j a) (h' : B k b) : B (j + k) (a * b) := by
  unfold B at *
  rw [Int.natAbs_mul, Nat.pow_add]
  exact Nat.mul_lt_mul'' h h'
theorem B.add {k : Nat} {a b : Int} (h : B k a) (h' : B k b) : B (k + 1) (a + b) := by
  unfold B at *
  have := Int.natAbs_add_le a b
  rw [Nat.pow_succ]; omega
theorem B.neg {k : Nat} {a : Int} (h : B k a) : B k (-a) := by
  unfold B at *
  rw [Int.natAbs_neg]; exact h
theorem B.sub {k : Nat} {a b : Int} (h : B k a) (h' : B k b) : B (k + 1) (a - b) := by
  rw [Int.sub_eq_add_neg]; exact h.add h'.neg
theorem B.mulW {j k : Nat} {a b : Int} (h : B j a) (h' : B k b) (q : j + k ≤ 100000) : CMulW a b := wide_mul (h.mono (Nat.le_succ j)) (h'.mono (Nat.le_succ k)) (by omega) (by omega) (by omega)
theorem gcd_pos {a b : Int} (hb : b ≠ 0) : 0 < Nat.gcd a.natAbs b.natAbs := Nat.gcd_pos_of_pos_right _ (by omega)
theorem gd_ne {a b : Int} (hb : b ≠ 0) : gd a b ≠ 0 := by
  have := gcd_pos (a := a) hb
  unfold gd
  split <;> omega
theorem gd_abs (a b : Int) : (gd a b).natAbs = Nat.gcd a.natAbs b.natAbs := by
  unfold gd
  split
  · rw [Int.natAbs_neg, Int.natAbs_natCast]
  · rw [Int.natAbs_natCast]
theorem gd_div {a b : Int} (k : Int) (hb : b ≠ 0) (sb : B 9000 b) : CDivF k (gd a b) := by
  refine ⟨gd_ne hb, PySem.Flt.log2_lt_of (by omega) ?_⟩
  rw [gd_abs]
  have := Nat.gcd_le_right (m := a.natAbs) (n := b.natAbs) (by omega)
  exact Nat.lt_of_le_of_lt this sb
theorem nm_parts {a b : Int} (hb : b ≠ 0) : a = gd a b * (nm a b).1 ∧ b = gd a b * (nm a b).2 := by
  have h1 : gd a b ∣ a := by
    rw [← Int.natAbs_dvd_natAbs, gd_abs]; exact Nat.gcd_dvd_left _ _
  have h2 : gd a b ∣ b := by
    rw [← Int.natAbs_dvd_natAbs, gd_abs]; exact Nat.gcd_dvd_right _ _
  have hg := gd_ne (a := a) hb
  obtain ⟨x, hx⟩ := h1
  obtain ⟨y, hy⟩ := h2
  have e1 : (nm a b).1 = x := by
    show a.fdiv (gd a b) = x
    have := Int.mul_fdiv_cancel_left (a := gd a b) x hg
    rw [← hx] at this; exact this
  have e2 : (nm a b).2 = y := by
    show b.fdiv (gd a b) = y
    have := Int.mul_fdiv_cancel_left (a := gd a b) y hg
    rw [← hy] at this; exact this
  rw [e1, e2]; exact ⟨hx, hy⟩
structure Rt (k : Nat) (p : Int × Int) : Prop where
  pos : 0 < p.2
  co : Nat.gcd p.1.natAbs p.2.natAbs = 1
  b1 : B k p.1
  b2 : B k p.2
theorem Rt.mono {j k : Nat} {p : Int × Int} (h : Rt j p) (q : j ≤ k) : Rt k p := ⟨h.pos, h.co, h.b1.mono q, h.b2.mono q⟩
theorem nm_cross {a b : Int} (hb : b ≠ 0) : (nm a b).1 * b = a * (nm a b).2 := by
  obtain ⟨h1, h2⟩ := nm_parts (a := a) hb
  generalize hp : nm a b = p at *
  generalize gd a b = g at *
  grind
theorem nm_rt {k : Nat} {a b : Int} (hb : b ≠ 0) (ba : B k a) (bb : B k b) : Rt k (nm a b) := by
  obtain ⟨h1, h2⟩ := nm_parts (a := a) hb
  have hab := gd_abs a b
  have hgp := gcd_pos (a := a) hb
  have n1 : a.natAbs = Nat.gcd a.natAbs b.natAbs * (nm a b).1.natAbs := by
    have := congrArg Int.natAbs h1
    rw [Int.natAbs_mul, hab] at this; exact this
  have n2 : b.natAbs = Nat.gcd a.natAbs b.natAbs * (nm a b).2.natAbs := by
    have := congrArg Int.natAbs h2
    rw [Int.natAbs_mul, hab] at this; exact this
  have co : Nat.gcd (nm a b).1.natAbs (nm a b).2.natAbs = 1 := by
    have e : Nat.gcd a.natAbs b.natAbs * Nat.gcd (nm a b).1.natAbs (nm a b).2.natAbs = Nat.gcd a.natAbs b.natAbs * 1 := by
      rw [← Nat.gcd_mul_left, ← n1, ← n2, Nat.mul_one]
    exact Nat.eq_of_mul_eq_mul_left hgp e
  have le1 : (nm a b).1.natAbs ≤ a.natAbs := by
    have := Nat.le_mul_of_pos_left (nm a b).1.natAbs hgp
    omega
  have le2 : (nm a b).2.natAbs ≤ b.natAbs := by
    have := Nat.le_mul_of_pos_left (nm a b).2.natAbs hgp
    omega
  refine ⟨?_, co, Nat.lt_of_le_of_lt le1 ba, Nat.lt_of_le_of_lt le2 bb⟩
  have hne : (nm a b).2 ≠ 0 := fun z => by rw [z, Int.mul_zero] at h2; exact hb h2
  rcases Int.lt_or_gt_of_ne hne with z | z
  · exfalso
    by_cases q : b < 0
    · have hg : gd a b < 0 := by unfold gd; rw [if_pos q]; omega
      have := Int.mul_pos_of_neg_of_neg hg z
      omega
    · have hg : 0 < gd a b := by unfold gd; rw [if_neg q]; omega
      have := Int.mul_neg_of_pos_of_neg hg z
      omega
  · exact z
theorem rt_uniq {j k : Nat} {p q : Int × Int} (hp : Rt j p) (hq : Rt k q) (h : p.1 * q.2 = q.1 * p.2) : p = q := by
  have hn : p.1.natAbs * q.2.natAbs = q.1.natAbs * p.2.natAbs := by
    have := congrArg Int.natAbs h
    rw [Int.natAbs_mul, Int.natAbs_mul] at this; exact this
  have d1 : p.2.natAbs ∣ q.2.natAbs := by
    have : p.2.natAbs ∣ p.1.natAbs * q.2.natAbs := ⟨q.1.natAbs, by rw [hn, Nat.mul_comm]⟩
    exact (Nat.Coprime.dvd_of_dvd_mul_left (Nat.Coprime.symm hp.co) this)
  have d2 : q.2.natAbs ∣ p.2.natAbs := by
    have : q.2.natAbs ∣ q.1.natAbs * p.2.natAbs := ⟨p.1.natAbs, by rw [← hn, Nat.mul_comm]⟩
    exact (Nat.Coprime.dvd_of_dvd_mul_left (Nat.Coprime.symm hq.co) this)
  have e := Nat.dvd_antisymm d1 d2
  have h1 := hp.pos
  have h2 := hq.pos
  have e2 : p.2 = q.2 := by omega
  have e1 : p.1 = q.1 := by
    rw [e2] at h
    exact Int.eq_of_mul_eq_mul_right (by omega) h
  exact Prod.ext e1 e2
theorem nm_eq {k : Nat} {p : Int × Int} {a b : Int} (hb : b ≠ 0) (hp : Rt k p) (h : p.1 * b = a * p.2) : nm a b = p := by
  have hr : Rt (a.natAbs + b.natAbs + 1) (nm a b) := nm_rt hb (by unfold B; exact Nat.lt_of_lt_of_le Nat.lt_two_pow_self (Nat.pow_le_pow_right (by omega) (by omega))) (by unfold B; exact Nat.lt_of_lt_of_le Nat.lt_two_pow_self (Nat.pow_le_pow_right (by omega) (by omega)))
  refine rt_uniq hr hp ?_
  have c := nm_cross (a := a) hb
  -- (x * p2) * b = (p1 * y) * b
  refine Int.eq_of_mul_eq_mul_right hb ?_
  generalize nm a b = n at *
  grind
theorem nm_id {k : Nat} {p : Int × Int} (hp : Rt k p) : nm p.1 p.2 = p := nm_eq (by have := hp.pos; omega) hp rfl
theorem rt_int {k : Nat} {n : Int} (h : B k n) (hk : 1 ≤ k) : Rt k (n, 1) := ⟨by show (0 : Int) < 1; omega, Nat.gcd_one_right _, h, by unfold B; show 1 < 2 ^ k; exact Nat.one_lt_two_pow (by omega)⟩
theorem nm_one (n : Int) : nm n 1 = (n, 1) := nm_id (k := n.natAbs + 1) (rt_int (by unfold B; exact Nat.lt_of_lt_of_le Nat.lt_two_pow_self (Nat.pow_le_pow_right (by omega) (by omega))) (by omega))
/-- the value -/
def vl (p : Int × Int) : Rat := (p.1 : Rat) / (p.2 : Rat)
theorem cast_ne {b : Int} (h : b ≠ 0) : (b : Rat) ≠ 0 := by
  intro z
  exact h (by exact_mod_cast z)
theorem vl_nm {a b : Int} (hb : b ≠ 0) : vl (nm a b) = (a : Rat) / (b : Rat) := by
  obtain ⟨h1, h2⟩ := nm_parts (a := a) hb
  have hg := gd_ne (a := a) hb
  have hne : (nm a b).2 ≠ 0 := fun z => by rw [z, Int.mul_zero] at h2; exact hb h2
  have c := nm_cross (a := a) hb
  have c' : ((nm a b).1 : Rat) * (b : Rat) = (a : Rat) * ((nm a b).2 : Rat) := by
    rw [← Rat.intCast_mul, ← Rat.intCast_mul, c]
  have k1 := cast_ne hb
  have k2 := cast_ne hne
  unfold vl
  grind
theorem vl_eq {j k : Nat} {p q : Int × Int} (hp : Rt j p) (hq : Rt k q) (h : vl p = vl q) : p = q := by
  refine rt_uniq hp hq ?_
  have k1 := cast_ne (show p.2 ≠ 0 by have := hp.pos; omega)
  have k2 := cast_ne (show q.2 ≠ 0 by have := hq.pos; omega)
  have c : (p.1 : Rat) * (q.2 : Rat) = (q.1 : Rat) * (p.2 : Rat) := by
    unfold vl at h
    grind
  rw [← Rat.intCast_mul, ← Rat.intCast_mul] at c
  exact Rat.intCast_inj.mp c
end K02

set_option Elab.async false
set_option linter.all false
set_option maxRecDepth 100000
set_option maxHeartbeats 4000000
namespace K02
open PySem L2 L3
def top (i : Nat) : Stmt := PySem.Challenge.pw_rangepools_k02_ratios.main.body.getD i (.Pass ⟨0, 0, 0, 0⟩)
abbrev s_l_cell : Stmt := top 19
theorem sc_l_cell : FnScope ["_law_script", "_law_k"] ["_law_script", "_law_k"] (defScope s_l_cell) := ⟨rfl, rfl, rfl, by decide +kernel, rfl, by decide +kernel, by decide +kernel⟩
abbrev s_l_box : Stmt := top 20
theorem sc_l_box : FnScope ["_law_script", "_law_k"] ["_law_script", "_law_k"] (defScope s_l_box) := ⟨rfl, rfl, rfl, by decide +kernel, rfl, by decide +kernel, by decide +kernel⟩
abbrev s_l_take : Stmt := top 21
theorem sc_l_take : FnScope ["_law_box_here", "_law_many", "_law_mixed", "_law_digit"] ["_law_box_here", "_law_many"] (defScope s_l_take) := ⟨rfl, rfl, rfl, by decide +kernel, rfl, by decide +kernel, by decide +kernel⟩
abbrev s_l_pick : Stmt := top 27
theorem sc_l_pick : FnScope ["_law_box_here", "_law_wide", "_law_up", "_law_down"] ["_law_box_here"] (defScope s_l_pick) := ⟨rfl, rfl, rfl, by decide +kernel, rfl, by decide +kernel, by decide +kernel⟩
abbrev s_l_frac : Stmt := top 22
theorem sc_l_frac : FnScope ["_law_up", "_law_down", "_law_one", "_law_other"] ["_law_up", "_law_down"] (defScope s_l_frac) := ⟨rfl, rfl, rfl, by decide +kernel, rfl, by decide +kernel, by decide +kernel⟩
abbrev s_Ratio_init : Stmt := inClass (top 7) 0
theorem sc_Ratio_init : FnScope ["self", "top", "bottom", "shared"] ["self", "top", "bottom"] (defScope s_Ratio_init) := ⟨rfl, rfl, rfl, by decide +kernel, rfl, by decide +kernel, by decide +kernel⟩
abbrev s_Ratio_top : Stmt := inClass (top 7) 2
theorem sc_Ratio_top : FnScope ["self"] ["self"] (defScope s_Ratio_top) := ⟨rfl, rfl, rfl, by decide +kernel, rfl, by decide +kernel, by decide +kernel⟩
abbrev s_Ratio_bottom : Stmt := inClass (top 7) 3
theorem sc_Ratio_bottom : FnScope ["self"] ["self"] (defScope s_Ratio_bottom) := ⟨rfl, rfl, rfl, by decide +kernel, rfl, by decide +kernel, by decide +kernel⟩
abbrev s_l_is : Stmt := top 28
theorem sc_l_is : FnScope ["_law_amount", "_law_due"] ["_law_amount", "_law_due"] (defScope s_l_is) := ⟨rfl, rfl, rfl, by decide +kernel, rfl, by decide +kernel, by decide +kernel⟩
abbrev s_Ratio_neg : Stmt := inClass (top 7) 7
theorem sc_Ratio_neg : FnScope ["self"] ["self"] (defScope s_Ratio_neg) := ⟨rfl, rfl, rfl, by decide +kernel, rfl, by decide +kernel, by decide +kernel⟩
abbrev s_is_integer : Stmt := top 8
theorem sc_is_integer : FnScope ["given"] ["given"] (defScope s_is_integer) := ⟨rfl, rfl, rfl, by decide +kernel, rfl, by decide +kernel, by decide +kernel⟩
abbrev s_is_number : Stmt := top 9
theorem sc_is_number : FnScope ["given"] ["given"] (defScope s_is_number) := ⟨rfl, rfl, rfl, by decide +kernel, rfl, by decide +kernel, by decide +kernel⟩
abbrev s_BadNumber_init : Stmt := inClass (top 5) 0
abbrev s_as_ratio : Stmt := top 10
theorem sc_as_ratio : FnScope ["given"] ["given"] (defScope s_as_ratio) := ⟨rfl, rfl, rfl, by decide +kernel, rfl, by decide +kernel, by decide +kernel⟩
abbrev s_Ratio_add : Stmt := inClass (top 7) 8
theorem sc_Ratio_add : FnScope ["self", "other", "right"] ["self", "other"] (defScope s_Ratio_add) := ⟨rfl, rfl, rfl, by decide +kernel, rfl, by decide +kernel, by decide +kernel⟩
abbrev s_l_plus : Stmt := top 23
theorem sc_l_plus : FnScope ["_law_x", "_law_y"] ["_law_x", "_law_y"] (defScope s_l_plus) := ⟨rfl, rfl, rfl, by decide +kernel, rfl, by decide +kernel, by decide +kernel⟩
abbrev s_crossed : Stmt := top 11
theorem sc_crossed : FnScope ["one", "other"] ["one", "other"] (defScope s_crossed) := ⟨rfl, rfl, rfl, by decide +kernel, rfl, by decide +kernel, by decide +kernel⟩
abbrev s_Ratio_sub : Stmt := inClass (top 7) 9
theorem sc_Ratio_sub : FnScope ["self", "other"] ["self", "other"] (defScope s_Ratio_sub) := ⟨rfl, rfl, rfl, by decide +kernel, rfl, by decide +kernel, by decide +kernel⟩
abbrev s_l_minus : Stmt := top 25
theorem sc_l_minus : FnScope ["_law_x", "_law_y"] ["_law_x", "_law_y"] (defScope s_l_minus) := ⟨rfl, rfl, rfl, by decide +kernel, rfl, by decide +kernel, by decide +kernel⟩
abbrev s_Ratio_mul : Stmt := inClass (top 7) 10
theorem sc_Ratio_mul : FnScope ["self", "other", "right"] ["self", "other"] (defScope s_Ratio_mul) := ⟨rfl, rfl, rfl, by decide +kernel, rfl, by decide +kernel, by decide +kernel⟩
abbrev s_l_times : Stmt := top 24
theorem sc_l_times : FnScope ["_law_x", "_law_y"] ["_law_x", "_law_y"] (defScope s_l_times) := ⟨rfl, rfl, rfl, by decide +kernel, rfl, by decide +kernel, by decide +kernel⟩
abbrev s_Ratio_eq : Stmt := inClass (top 7) 4
theorem sc_Ratio_eq : FnScope ["self", "other"] ["self", "other"] (defScope s_Ratio_eq) := ⟨rfl, rfl, rfl, by decide +kernel, rfl, by decide +kernel, by decide +kernel⟩
abbrev s_Ratio_lt : Stmt := inClass (top 7) 5
theorem sc_Ratio_lt : FnScope ["self", "other"] ["self", "other"] (defScope s_Ratio_lt) := ⟨rfl, rfl, rfl, by decide +kernel, rfl, by decide +kernel, by decide +kernel⟩
abbrev s_l_less : Stmt := top 26
theorem sc_l_less : FnScope ["_law_x", "_law_y"] ["_law_x", "_law_y"] (defScope s_l_less) := ⟨rfl, rfl, rfl, by decide +kernel, rfl, by decide +kernel, by decide +kernel⟩
abbrev s_Ratio_le : Stmt := inClass (top 7) 6
theorem sc_Ratio_le : FnScope ["self", "other"] ["self", "other"] (defScope s_Ratio_le) := ⟨rfl, rfl, rfl, by decide +kernel, rfl, by decide +kernel, by decide +kernel⟩
abbrev s_l_compared : Stmt := top 31
theorem sc_l_compared : FnScope ["_law_one", "_law_other", "_law_x", "_law_y"] ["_law_one", "_law_other", "_law_x", "_law_y"] (defScope s_l_compared) := ⟨rfl, rfl, rfl, by decide +kernel, rfl, by decide +kernel, by decide +kernel⟩
abbrev s_Ratio_over : Stmt := inClass (top 7) 11
theorem sc_Ratio_over : FnScope ["self", "number", "right"] ["self", "number"] (defScope s_Ratio_over) := ⟨rfl, rfl, rfl, by decide +kernel, rfl, by decide +kernel, by decide +kernel⟩
abbrev s_lesser : Stmt := top 12
theorem sc_lesser : FnScope ["one", "other", "left", "right"] ["one", "other"] (defScope s_lesser) := ⟨rfl, rfl, rfl, by decide +kernel, rfl, by decide +kernel, by decide +kernel⟩
abbrev s_greater : Stmt := top 13
theorem sc_greater : FnScope ["one", "other", "left", "right"] ["one", "other"] (defScope s_greater) := ⟨rfl, rfl, rfl, by decide +kernel, rfl, by decide +kernel, by decide +kernel⟩
abbrev s_total : Stmt := top 14
theorem sc_total : FnScope ["numbers", "summed", "number"] ["numbers"] (defScope s_total) := ⟨rfl, rfl, rfl, by decide +kernel, rfl, by decide +kernel, by decide +kernel⟩
abbrev s_l_chosen : Stmt := top 32
theorem sc_l_chosen : FnScope ["_law_one", "_law_other", "_law_x", "_law_n", "_law_due", "_law_made"] ["_law_one", "_law_other", "_law_x", "_law_n"] (defScope s_l_chosen) := ⟨rfl, rfl, rfl, by decide +kernel, rfl, by decide +kernel, by decide +kernel⟩
abbrev s_l_refused : Stmt := top 29
theorem sc_l_refused : FnScope ["_law_strange", "e"] ["_law_strange"] (defScope s_l_refused) := ⟨rfl, rfl, rfl, by decide +kernel, rfl, by decide +kernel, by decide +kernel⟩
abbrev s_l_zero : Stmt := top 30
theorem sc_l_zero : FnScope ["_law_amount", "_law_nought", "_law_caught"] ["_law_amount", "_law_nought"] (defScope s_l_zero) := ⟨rfl, rfl, rfl, by decide +kernel, rfl, by decide +kernel, by decide +kernel⟩
abbrev s_l_law : Stmt := top 33
theorem sc_l_law : FnScope ["_law_script", "_law_k", "_law_box_here", "_law_first", "_law_second", "_law_x", "_law_y", "_law_one", "_law_other", "_law_sums", "_law_n", "_law_odd"] ["_law_script"] (defScope s_l_law) := ⟨rfl, rfl, rfl, by decide +kernel, rfl, by decide +kernel, by decide +kernel⟩
structure Ad where
  f_l_law : Addr
  d_l_law : FuncData
  f_l_box : Addr
  d_l_box : FuncData
  f_l_cell : Addr
  d_l_cell : FuncData
  f_l_pick : Addr
  d_l_pick : FuncData
  f_l_take : Addr
  d_l_take : FuncData
  f_l_frac : Addr
  d_l_frac : FuncData
  C_Ratio : Addr
  f_Ratio_init : Addr
  d_Ratio_init : FuncData
  C_ByZero : Addr
  f_l_is : Addr
  d_l_is : FuncData
  f_Ratio_top : Addr
  d_Ratio_top : FuncData
  p_Ratio_top : Addr
  f_Ratio_bottom : Addr
  d_Ratio_bottom : FuncData
  p_Ratio_bottom : Addr
  f_Ratio_neg : Addr
  d_Ratio_neg : FuncData
  f_Ratio_add : Addr
  d_Ratio_add : FuncData
  f_is_number : Addr
  d_is_number : FuncData
  f_is_integer : Addr
  d_is_integer : FuncData
  f_as_ratio : Addr
  d_as_ratio : FuncData
  C_BadNumber : Addr
  f_BadNumber_init : Addr
  d_BadNumber_init : FuncData
  v1_Ratio_init : List Value
  f_l_plus : Addr
  d_l_plus : FuncData
  f_Ratio_sub : Addr
  d_Ratio_sub : FuncData
  f_crossed : Addr
  d_crossed : FuncData
  f_l_minus : Addr
  d_l_minus : FuncData
  f_Ratio_mul : Addr
  d_Ratio_mul : FuncData
  f_l_times : Addr
  d_l_times : FuncData
  f_l_compared : Addr
  d_l_compared : FuncData
  f_Ratio_eq : Addr
  d_Ratio_eq : FuncData
  f_Ratio_lt : Addr
  d_Ratio_lt : FuncData
  f_l_less : Addr
  d_l_less : FuncData
  f_Ratio_le : Addr
  d_Ratio_le : FuncData
  f_Ratio_over : Addr
  d_Ratio_over : FuncData
  f_l_chosen : Addr
  d_l_chosen : FuncData
  f_lesser : Addr
  d_lesser : FuncData
  f_greater : Addr
  d_greater : FuncData
  f_total : Addr
  d_total : FuncData
  f_l_refused : Addr
  d_l_refused : FuncData
  f_l_zero : Addr
  d_l_zero : FuncData
structure Txt (K : PySem.W.Frag) (mg : Str → Option Value) (Z : Ad) : Prop where
  F_l_law : L2.Fun K "law" "law" s_l_law Z.f_l_law Z.d_l_law
  B_l_law : Binds K Z.d_l_law ["_law_script"] []
  N_len : mg "len" = none
  N_min : mg "min" = none
  N_max : mg "max" = none
  N_range : mg "range" = none
  F_l_box : L2.Fun K "_law_box" "_law_box" s_l_box Z.f_l_box Z.d_l_box
  B_l_box : Binds K Z.d_l_box ["_law_script", "_law_k"] []
  F_l_cell : L2.Fun K "_law_cell" "_law_cell" s_l_cell Z.f_l_cell Z.d_l_cell
  B_l_cell : Binds K Z.d_l_cell ["_law_script", "_law_k"] []
  G_l_cell : mg "_law_cell" = some (.ref Z.f_l_cell)
  N_int : mg "int" = none
  N_abs : mg "abs" = none
  G_l_box : mg "_law_box" = some (.ref Z.f_l_box)
  F_l_pick : L2.Fun K "_law_pick" "_law_pick" s_l_pick Z.f_l_pick Z.d_l_pick
  B_l_pick : Binds K Z.d_l_pick ["_law_box_here"] []
  F_l_take : L2.Fun K "_law_take" "_law_take" s_l_take Z.f_l_take Z.d_l_take
  B_l_take : Binds K Z.d_l_take ["_law_box_here", "_law_many"] []
  G_l_take : mg "_law_take" = some (.ref Z.f_l_take)
  G_l_pick : mg "_law_pick" = some (.ref Z.f_l_pick)
  F_l_frac : L2.Fun K "_law_frac" "_law_frac" s_l_frac Z.f_l_frac Z.d_l_frac
  B_l_frac : Binds K Z.d_l_frac ["_law_up", "_law_down"] []
  G_l_frac : mg "_law_frac" = some (.ref Z.f_l_frac)
  cl_Ratio : Cls K Z.C_Ratio
  F_Ratio_init : L2.FunD K "__init__" "Ratio.__init__" (defArgs s_Ratio_init) (defBody s_Ratio_init) (defScope s_Ratio_init) [V.int 1] [] Z.f_Ratio_init Z.d_Ratio_init
  B_Ratio_init : Binds K Z.d_Ratio_init ["self", "top", "bottom"] []
  E0_ByZero : Er0 K mg Z.C_ByZero "ByZero"
  G_gcd : mg "gcd" = some (.builtin "math.gcd")
  NA_Ratio__top : NoAttr K Z.C_Ratio "_top"
  NA_Ratio__bottom : NoAttr K Z.C_Ratio "_bottom"
  G_Ratio : mg "Ratio" = some (.ref Z.C_Ratio)
  K_Ratio : Mk K Z.C_Ratio Z.f_Ratio_init
  F_l_is : L2.Fun K "_law_is" "_law_is" s_l_is Z.f_l_is Z.d_l_is
  B_l_is : Binds K Z.d_l_is ["_law_amount", "_law_due"] []
  N_isinstance : mg "isinstance" = none
  F_Ratio_top : L2.Fun K "top" "Ratio.top" s_Ratio_top Z.f_Ratio_top Z.d_Ratio_top
  B_Ratio_top : Binds K Z.d_Ratio_top ["self"] []
  P_Ratio_top : PropOf K Z.C_Ratio "top" Z.p_Ratio_top Z.f_Ratio_top
  F_Ratio_bottom : L2.Fun K "bottom" "Ratio.bottom" s_Ratio_bottom Z.f_Ratio_bottom Z.d_Ratio_bottom
  B_Ratio_bottom : Binds K Z.d_Ratio_bottom ["self"] []
  P_Ratio_bottom : PropOf K Z.C_Ratio "bottom" Z.p_Ratio_bottom Z.f_Ratio_bottom
  G_l_is : mg "_law_is" = some (.ref Z.f_l_is)
  F_Ratio_neg : L2.Fun K "__neg__" "Ratio.__neg__" s_Ratio_neg Z.f_Ratio_neg Z.d_Ratio_neg
  B_Ratio_neg : Binds K Z.d_Ratio_neg ["self"] []
  O_Ratio_neg : CmpIn K Z.C_Ratio Z.f_Ratio_neg "__neg__"
  F_Ratio_add : L2.Fun K "__add__" "Ratio.__add__" s_Ratio_add Z.f_Ratio_add Z.d_Ratio_add
  B_Ratio_add : Binds K Z.d_Ratio_add ["self", "other"] []
  F_is_number : L2.Fun K "is_number" "is_number" s_is_number Z.f_is_number Z.d_is_number
  B_is_number : Binds K Z.d_is_number ["given"] []
  F_is_integer : L2.Fun K "is_integer" "is_integer" s_is_integer Z.f_is_integer Z.d_is_integer
  B_is_integer : Binds K Z.d_is_integer ["given"] []
  N_bool : mg "bool" = none
  G_is_integer : mg "is_integer" = some (.ref Z.f_is_integer)
  G_is_number : mg "is_number" = some (.ref Z.f_is_number)
  F_as_ratio : L2.Fun K "as_ratio" "as_ratio" s_as_ratio Z.f_as_ratio Z.d_as_ratio
  B_as_ratio : Binds K Z.d_as_ratio ["given"] []
  F_BadNumber_init : L2.Fun K "__init__" "BadNumber.__init__" s_BadNumber_init Z.f_BadNumber_init Z.d_BadNumber_init
  B_BadNumber_init : Binds K Z.d_BadNumber_init ["self", "given"] []
  E1_BadNumber : Er1 K mg Z.C_BadNumber Z.f_BadNumber_init "BadNumber" "given"
  V1_Ratio_init : Vals [V.int 1] Z.v1_Ratio_init
  B1_Ratio_init : Binds K Z.d_Ratio_init ["self", "top", "bottom"] Z.v1_Ratio_init
  G_as_ratio : mg "as_ratio" = some (.ref Z.f_as_ratio)
  O_Ratio_add : OpIn K Z.C_Ratio Z.f_Ratio_add "add"
  F_l_plus : L2.Fun K "_law_plus" "_law_plus" s_l_plus Z.f_l_plus Z.d_l_plus
  B_l_plus : Binds K Z.d_l_plus ["_law_x", "_law_y"] []
  G_l_plus : mg "_law_plus" = some (.ref Z.f_l_plus)
  F_Ratio_sub : L2.Fun K "__sub__" "Ratio.__sub__" s_Ratio_sub Z.f_Ratio_sub Z.d_Ratio_sub
  B_Ratio_sub : Binds K Z.d_Ratio_sub ["self", "other"] []
  F_crossed : L2.Fun K "crossed" "crossed" s_crossed Z.f_crossed Z.d_crossed
  B_crossed : Binds K Z.d_crossed ["one", "other"] []
  G_crossed : mg "crossed" = some (.ref Z.f_crossed)
  O_Ratio_sub : OpIn K Z.C_Ratio Z.f_Ratio_sub "sub"
  F_l_minus : L2.Fun K "_law_minus" "_law_minus" s_l_minus Z.f_l_minus Z.d_l_minus
  B_l_minus : Binds K Z.d_l_minus ["_law_x", "_law_y"] []
  G_l_minus : mg "_law_minus" = some (.ref Z.f_l_minus)
  F_Ratio_mul : L2.Fun K "__mul__" "Ratio.__mul__" s_Ratio_mul Z.f_Ratio_mul Z.d_Ratio_mul
  B_Ratio_mul : Binds K Z.d_Ratio_mul ["self", "other"] []
  O_Ratio_mul : OpIn K Z.C_Ratio Z.f_Ratio_mul "mul"
  F_l_times : L2.Fun K "_law_times" "_law_times" s_l_times Z.f_l_times Z.d_l_times
  B_l_times : Binds K Z.d_l_times ["_law_x", "_law_y"] []
  G_l_times : mg "_law_times" = some (.ref Z.f_l_times)
  F_l_compared : L2.Fun K "_law_compared" "_law_compared" s_l_compared Z.f_l_compared Z.d_l_compared
  B_l_compared : Binds K Z.d_l_compared ["_law_one", "_law_other", "_law_x", "_law_y"] []
  F_Ratio_eq : L2.Fun K "__eq__" "Ratio.__eq__" s_Ratio_eq Z.f_Ratio_eq Z.d_Ratio_eq
  B_Ratio_eq : Binds K Z.d_Ratio_eq ["self", "other"] []
  O_Ratio_eq : CmpIn K Z.C_Ratio Z.f_Ratio_eq "__eq__"
  F_Ratio_lt : L2.Fun K "__lt__" "Ratio.__lt__" s_Ratio_lt Z.f_Ratio_lt Z.d_Ratio_lt
  B_Ratio_lt : Binds K Z.d_Ratio_lt ["self", "other"] []
  O_Ratio_lt : CmpIn K Z.C_Ratio Z.f_Ratio_lt "__lt__"
  F_l_less : L2.Fun K "_law_less" "_law_less" s_l_less Z.f_l_less Z.d_l_less
  B_l_less : Binds K Z.d_l_less ["_law_x", "_law_y"] []
  G_l_less : mg "_law_less" = some (.ref Z.f_l_less)
  F_Ratio_le : L2.Fun K "__le__" "Ratio.__le__" s_Ratio_le Z.f_Ratio_le Z.d_Ratio_le
  B_Ratio_le : Binds K Z.d_Ratio_le ["self", "other"] []
  O_Ratio_le : CmpIn K Z.C_Ratio Z.f_Ratio_le "__le__"
  G_l_compared : mg "_law_compared" = some (.ref Z.f_l_compared)
  F_Ratio_over : L2.Fun K "over" "Ratio.over" s_Ratio_over Z.f_Ratio_over Z.d_Ratio_over
  B_Ratio_over : Binds K Z.d_Ratio_over ["self", "number"] []
  M_Ratio_over : Meth K Z.C_Ratio "over" Z.f_Ratio_over
  F_l_chosen : L2.Fun K "_law_chosen" "_law_chosen" s_l_chosen Z.f_l_chosen Z.d_l_chosen
  B_l_chosen : Binds K Z.d_l_chosen ["_law_one", "_law_other", "_law_x", "_law_n"] []
  ne_Ratio : PySem.W.findIn K (.ref Z.C_Ratio) "__ne__" = some (some (.builtin "object.__ne__"))
  ob_Ratio : PySem.W.subIn K (.ref Z.C_Ratio) (.type "object") = some true
  F_lesser : L2.Fun K "lesser" "lesser" s_lesser Z.f_lesser Z.d_lesser
  B_lesser : Binds K Z.d_lesser ["one", "other"] []
  G_lesser : mg "lesser" = some (.ref Z.f_lesser)
  F_greater : L2.Fun K "greater" "greater" s_greater Z.f_greater Z.d_greater
  B_greater : Binds K Z.d_greater ["one", "other"] []
  G_greater : mg "greater" = some (.ref Z.f_greater)
  F_total : L2.Fun K "total" "total" s_total Z.f_total Z.d_total
  B_total : Binds K Z.d_total ["numbers"] []
  G_total : mg "total" = some (.ref Z.f_total)
  G_l_chosen : mg "_law_chosen" = some (.ref Z.f_l_chosen)
  F_l_refused : L2.Fun K "_law_refused" "_law_refused" s_l_refused Z.f_l_refused Z.d_l_refused
  B_l_refused : Binds K Z.d_l_refused ["_law_strange"] []
  G_BadNumber : mg "BadNumber" = some (.ref Z.C_BadNumber)
  XF_BadNumber : XfC K Z.C_BadNumber
  XN_BadNumber_given : PySem.W.findIn K (.ref Z.C_BadNumber) "given" = some none
  N_repr : mg "repr" = none
  G_l_refused : mg "_law_refused" = some (.ref Z.f_l_refused)
  F_l_zero : L2.Fun K "_law_zero" "_law_zero" s_l_zero Z.f_l_zero Z.d_l_zero
  B_l_zero : Binds K Z.d_l_zero ["_law_amount", "_law_nought"] []
  G_ByZero : mg "ByZero" = some (.ref Z.C_ByZero)
  G_l_zero : mg "_law_zero" = some (.ref Z.f_l_zero)
  G_l_law : mg "law" = some (.ref Z.f_l_law)
  kit_int_Ratio : PySem.W.kitOne K (.type "int") (.ref Z.C_Ratio) = some false
  kit_bool_Ratio : PySem.W.kitOne K (.type "bool") (.ref Z.C_Ratio) = some false
  kit_NoneType_Ratio : PySem.W.kitOne K (.type "NoneType") (.ref Z.C_Ratio) = some false
  kit_str_Ratio : PySem.W.kitOne K (.type "str") (.ref Z.C_Ratio) = some false
  kit_list_Ratio : PySem.W.kitOne K (.type "list") (.ref Z.C_Ratio) = some false
  kit_tuple_Ratio : PySem.W.kitOne K (.type "tuple") (.ref Z.C_Ratio) = some false
  kit_dict_Ratio : PySem.W.kitOne K (.type "dict") (.ref Z.C_Ratio) = some false
  kit_Ratio_Ratio : PySem.W.kitOne K (.ref Z.C_Ratio) (.ref Z.C_Ratio) = some true
  kit_int_bool : PySem.W.kitOne K (.type "int") (.type "bool") = some false
  kit_bool_bool : PySem.W.kitOne K (.type "bool") (.type "bool") = some true
  kit_NoneType_bool : PySem.W.kitOne K (.type "NoneType") (.type "bool") = some false
  kit_str_bool : PySem.W.kitOne K (.type "str") (.type "bool") = some false
  kit_list_bool : PySem.W.kitOne K (.type "list") (.type "bool") = some false
  kit_tuple_bool : PySem.W.kitOne K (.type "tuple") (.type "bool") = some false
  kit_dict_bool : PySem.W.kitOne K (.type "dict") (.type "bool") = some false
  kit_Ratio_bool : PySem.W.kitOne K (.ref Z.C_Ratio) (.type "bool") = some false
  kit_int_int : PySem.W.kitOne K (.type "int") (.type "int") = some true
  kit_bool_int : PySem.W.kitOne K (.type "bool") (.type "int") = some true
  kit_NoneType_int : PySem.W.kitOne K (.type "NoneType") (.type "int") = some false
  kit_str_int : PySem.W.kitOne K (.type "str") (.type "int") = some false
  kit_list_int : PySem.W.kitOne K (.type "list") (.type "int") = some false
  kit_tuple_int : PySem.W.kitOne K (.type "tuple") (.type "int") = some false
  kit_dict_int : PySem.W.kitOne K (.type "dict") (.type "int") = some false
  kit_Ratio_int : PySem.W.kitOne K (.ref Z.C_Ratio) (.type "int") = some false
  isi_Ratio : IsiC K Z.C_Ratio
  nf_Ratio_int : PySem.W.notFirst K Z.C_Ratio (.type "int") = true
  nf_Ratio_bool : PySem.W.notFirst K Z.C_Ratio (.type "bool") = true
  nf_Ratio_NoneType : PySem.W.notFirst K Z.C_Ratio (.type "NoneType") = true
  nf_Ratio_str : PySem.W.notFirst K Z.C_Ratio (.type "str") = true
  nf_Ratio_list : PySem.W.notFirst K Z.C_Ratio (.type "list") = true
  nf_Ratio_tuple : PySem.W.notFirst K Z.C_Ratio (.type "tuple") = true
  nf_Ratio_dict : PySem.W.notFirst K Z.C_Ratio (.type "dict") = true
  nf_Ratio_Ratio : PySem.W.notFirst K Z.C_Ratio (.ref Z.C_Ratio) = true
  exm_ByZero_ByZero : PySem.W.exmOne K (.ref Z.C_ByZero) (.ref Z.C_ByZero) = some true
  exm_ByZero_BadNumber : PySem.W.exmOne K (.ref Z.C_ByZero) (.ref Z.C_BadNumber) = some false
  exm_BadNumber_ByZero : PySem.W.exmOne K (.ref Z.C_BadNumber) (.ref Z.C_ByZero) = some false
  exm_BadNumber_BadNumber : PySem.W.exmOne K (.ref Z.C_BadNumber) (.ref Z.C_BadNumber) = some true
section
variable {P : Program} {w : World} {K : PySem.W.Frag} {mg : Str → Option Value} {base : Heap} {Z : Ad}
def w_l_cell (K : PySem.W.Frag) (Z : Ad) : Ws := (wRet (wIf (wTst (wOp (oI CT fun i j => .bl (decide (i < j))) (wVar 1) (wCB zLen (wCons (wVar 0) wNil)))) (wOp oIx (wVar 0) (wVar 1)) (wC (.int 0))))
def q_l_cell (K : PySem.W.Frag) (Z : Ad) : Fn := fnOf 2 0 (w_l_cell K Z)
theorem ok_l_cell (T : Txt K mg Z) : FnG P w K mg base (L2.CX P w) 1 Z.f_l_cell Z.d_l_cell ["_law_script", "_law_k"] (spF K 2 (q_l_cell K Z)) :=
  (def_ok T.F_l_cell (u := w_l_cell K Z) sc_l_cell rfl rfl fun cdv A outer s H E hr =>
    (ss_one (s_ret (x_if (x_tst (o_lt) (x_var 1) (x_callB b_len T.N_len rfl (xa_cons (x_var 0) xa_nil)) (nomark _)) (x_ix (x_var 0) (x_var 1) (fun _ _ => rfl)) x_int))))
def w_l_box (K : PySem.W.Frag) (Z : Ad) : Ws := (wRetL (wLstO (wCons (wCB zAbs (wCons (wCB zInt (wCons (wCall (q_l_cell K Z) [] (wCons (wVar 0) (wCons (wVar 1) wNil))) wNil)) wNil)) (wCons (wC (.int 0)) (wCons (wOp (oI CT fun i j => .int (i + j)) (wOp (oI CMulW fun i j => .int (i * j)) (wC (.int 40503)) (wVar 1)) (wC (.int 911))) wNil)))))
def q_l_box (K : PySem.W.Frag) (Z : Ad) : Fn := fnOf 2 0 (w_l_box K Z)
theorem ok_l_box (T : Txt K mg Z) : FnG P w K mg base (L2.CX P w) 2 Z.f_l_box Z.d_l_box ["_law_script", "_law_k"] (spF K 2 (q_l_box K Z)) :=
  (def_ok T.F_l_box (u := w_l_box K Z) sc_l_box rfl rfl fun cdv A outer s H E hr =>
    (ss_one (s_retL (xl_lst (xa_cons (x_callB b_abs T.N_abs rfl (xa_cons (x_callTy b_int T.N_int rfl (xa_cons (x_call (ok_l_cell (P := P) (w := w) (base := base) T) (hr.mono (by decide)) T.G_l_cell T.F_l_cell.kp T.B_l_cell .nil hdd0 (takes_of rfl rfl rfl rfl) hf_of (xa_cons (x_var 0) (xa_cons (x_var 1) xa_nil))) xa_nil)) xa_nil)) (xa_cons x_int (xa_cons (x_bin o_add (x_bin o_mul x_int (x_var 1)) x_int) xa_nil)))))))
def w_l_take (K : PySem.W.Frag) (Z : Ad) : Ws := (wSeq (wIfS (wTst (wOp (oI CT fun i j => .bl (decide (j ≤ i))) (wIxO 0 (wC (.int 0))) (wOp (oI CPowB fun i j => .int (i ^ j.toNat)) (wC (.int 10)) (wC (.int 18))))) (wSeq (wSet 3 (wOp (oI (fun _ j => j ≠ 0) fun i j => .int (i.fmod j)) (wCB zInt (wCons (wIxO 0 (wC (.int 0))) wNil)) (wVar 1)))
    (wSeq (wStO 0 (wOp (oI CDivF fun i j => .int (i.fdiv j)) (wIxO 0 (wC (.int 0))) (wVar 1)) (wC (.int 0)))
    (wRet (wVar 3)))) wNx)
    (wSeq (wStO 0 (wOp (oI CT fun i j => .int (i + j)) (wIxO 0 (wC (.int 1))) (wC (.int 1))) (wC (.int 1)))
    (wSeq (wSet 2 (wOp (oI (fun _ j => j ≠ 0) fun i j => .int (i.fmod j)) (wOp (oI CPowB fun i j => .int (i ^ j.toNat)) (wCB zInt (wCons (wOp (oI CT fun i j => .int (i + j)) (wOp (oI CT fun i j => .int (i + j)) (wOp (oI CMulW fun i j => .int (i * j)) (wOp (oI CT fun i j => .int (i + j)) (wIxO 0 (wC (.int 0))) (wC (.int 7))) (wC (.int 69069))) (wOp (oI CMulW fun i j => .int (i * j)) (wIxO 0 (wC (.int 1))) (wC (.int 40692)))) (wIxO 0 (wC (.int 2)))) wNil)) (wC (.int 3))) (wC (.int 2147483647))))
    (wSeq (wSet 2 (wOp (oI (fun _ j => j ≠ 0) fun i j => .int (i.fmod j)) (wOp (oI CPowB fun i j => .int (i ^ j.toNat)) (wCB zInt (wCons (wOp (oI CT fun i j => .int (i + j)) (wVar 2) (wOp (oI CMulW fun i j => .int (i * j)) (wIxO 0 (wC (.int 1))) (wC (.int 17389)))) wNil)) (wC (.int 3))) (wC (.int 2147483399))))
    (wRet (wOp (oI (fun _ j => j ≠ 0) fun i j => .int (i.fmod j)) (wCB zInt (wCons (wOp (oI CDivF fun i j => .int (i.fdiv j)) (wVar 2) (wC (.int 64))) wNil)) (wVar 1)))))))
def q_l_take (K : PySem.W.Frag) (Z : Ad) : Fn := fnOf 2 2 (w_l_take K Z)
theorem ok_l_take (T : Txt K mg Z) : FnG P w K mg base (L2.CX P w) 1 Z.f_l_take Z.d_l_take ["_law_box_here", "_law_many"] (spF K 2 (q_l_take K Z)) :=
  (def_ok T.F_l_take (u := w_l_take K Z) sc_l_take rfl rfl fun cdv A outer s H E hr =>
    (ss_cons (s_if (x_tst (o_ge) (x_ixO 0 x_int (fun _ _ => rfl)) (x_bin o_pow x_int x_int) (nomark _)) (ss_cons (s_set 3 sc_l_take.nd (x_bin o_mod (x_callTy b_int T.N_int rfl (xa_cons (x_ixO 0 x_int (fun _ _ => rfl)) xa_nil)) (x_var 1)))
    (ss_cons (s_sub 0 (x_bin o_fdivF (x_ixO 0 x_int (fun _ _ => rfl)) (x_var 1)) x_int)
    (ss_one (s_ret (x_var 3))))) ss_nil)
    (ss_cons (s_sub 0 (x_bin o_add (x_ixO 0 x_int (fun _ _ => rfl)) x_int) x_int)
    (ss_cons (s_set 2 sc_l_take.nd (x_bin o_mod (x_bin o_pow (x_callTy b_int T.N_int rfl (xa_cons (x_bin o_add (x_bin o_add (x_bin o_mul (x_bin o_add (x_ixO 0 x_int (fun _ _ => rfl)) x_int) x_int) (x_bin o_mul (x_ixO 0 x_int (fun _ _ => rfl)) x_int)) (x_ixO 0 x_int (fun _ _ => rfl))) xa_nil)) x_int) x_int))
    (ss_cons (s_set 2 sc_l_take.nd (x_bin o_mod (x_bin o_pow (x_callTy b_int T.N_int rfl (xa_cons (x_bin o_add (x_var 2) (x_bin o_mul (x_ixO 0 x_int (fun _ _ => rfl)) x_int)) xa_nil)) x_int) x_int))
    (ss_one (s_ret (x_bin o_mod (x_callTy b_int T.N_int rfl (xa_cons (x_bin o_fdivF (x_var 2) x_int) xa_nil)) (x_var 1)))))))))
def w_l_pick (K : PySem.W.Frag) (Z : Ad) : Ws := (wSeq (wSet 1 (wOp oIx (wLst (wCons (wC (.int 3)) (wCons (wC (.int 9)) (wCons (wC (.int 60)) (wCons (wOp (oI CMulW fun i j => .int (i * j)) (wC (.int 3)) (wOp (oI CPowB fun i j => .int (i ^ j.toNat)) (wC (.int 10)) (wC (.int 8)))) (wCons (wOp (oI CPowB fun i j => .int (i ^ j.toNat)) (wC (.int 10)) (wC (.int 30))) wNil)))))) (wCallB 0 (q_l_take K Z) [] (wCons (wC (.int 5)) wNil))))
    (wSeq (wSet 2 (wOp (oI CT fun i j => .int (i - j)) (wCallB 0 (q_l_take K Z) [] (wCons (wOp (oI CT fun i j => .int (i + j)) (wOp (oI CMulW fun i j => .int (i * j)) (wC (.int 2)) (wVar 1)) (wC (.int 1))) wNil)) (wVar 1)))
    (wSeq (wSet 3 (wOp (oI CMulW fun i j => .int (i * j)) (wOp (oI CT fun i j => .int (i + j)) (wC (.int 1)) (wCallB 0 (q_l_take K Z) [] (wCons (wVar 1) wNil))) (wOp oIx (wLst (wCons (wC (.int 1)) (wCons (wUn (fun d P => ∃ i, d = .int i ∧ P (.int (-i))) (wC (.int 1))) wNil))) (wCallB 0 (q_l_take K Z) [] (wCons (wC (.int 2)) wNil)))))
    (wRetL (wLstO (wCons (wVar 2) (wCons (wOp oIx (wLst (wCons (wVar 3) (wCons (wC (.int 1)) (wCons (wC (.int 1)) wNil)))) (wCallB 0 (q_l_take K Z) [] (wCons (wC (.int 3)) wNil))) wNil)))))))
def q_l_pick (K : PySem.W.Frag) (Z : Ad) : Fn := fnOf 1 3 (w_l_pick K Z)
theorem ok_l_pick (T : Txt K mg Z) : FnG P w K mg base (L2.CX P w) 2 Z.f_l_pick Z.d_l_pick ["_law_box_here"] (spF K 1 (q_l_pick K Z)) :=
  (def_ok T.F_l_pick (u := w_l_pick K Z) sc_l_pick rfl rfl fun cdv A outer s H E hr =>
    (ss_cons (s_set 1 sc_l_pick.nd (x_ix (x_lst (xa_cons x_int (xa_cons x_int (xa_cons x_int (xa_cons (x_bin o_mul x_int (x_bin o_pow x_int x_int)) (xa_cons (x_bin o_pow x_int x_int) xa_nil)))))) (x_callB' 0 (ok_l_take (P := P) (w := w) (base := base) T) (hr.mono (by decide)) T.G_l_take T.F_l_take.kp T.B_l_take .nil hdd0 (takes_of rfl rfl rfl rfl) hf_of (xa_cons x_int xa_nil)) (fun _ _ => rfl)))
    (ss_cons (s_set 2 sc_l_pick.nd (x_bin o_sub (x_callB' 0 (ok_l_take (P := P) (w := w) (base := base) T) (hr.mono (by decide)) T.G_l_take T.F_l_take.kp T.B_l_take .nil hdd0 (takes_of rfl rfl rfl rfl) hf_of (xa_cons (x_bin o_add (x_bin o_mul x_int (x_var 1)) x_int) xa_nil)) (x_var 1)))
    (ss_cons (s_set 3 sc_l_pick.nd (x_bin o_mul (x_bin o_add x_int (x_callB' 0 (ok_l_take (P := P) (w := w) (base := base) T) (hr.mono (by decide)) T.G_l_take T.F_l_take.kp T.B_l_take .nil hdd0 (takes_of rfl rfl rfl rfl) hf_of (xa_cons (x_var 1) xa_nil))) (x_ix (x_lst (xa_cons x_int (xa_cons (x_un o_neg x_int) xa_nil))) (x_callB' 0 (ok_l_take (P := P) (w := w) (base := base) T) (hr.mono (by decide)) T.G_l_take T.F_l_take.kp T.B_l_take .nil hdd0 (takes_of rfl rfl rfl rfl) hf_of (xa_cons x_int xa_nil)) (fun _ _ => rfl))))
    (ss_one (s_retL (xl_lst (xa_cons (x_var 2) (xa_cons (x_ix (x_lst (xa_cons (x_var 3) (xa_cons x_int (xa_cons x_int xa_nil)))) (x_callB' 0 (ok_l_take (P := P) (w := w) (base := base) T) (hr.mono (by decide)) T.G_l_take T.F_l_take.kp T.B_l_take .nil hdd0 (takes_of rfl rfl rfl rfl) hf_of (xa_cons x_int xa_nil)) (fun _ _ => rfl)) xa_nil)))))))))
def w_l_frac (K : PySem.W.Frag) (Z : Ad) : Ws := (wSeq (wPar 2 3 (wCons (wCB zAbs (wCons (wVar 0) wNil)) (wCons (wCB zAbs (wCons (wVar 1) wNil)) wNil)))
    (wSeq (wWhile (wTst (wOp (oI CT fun i j => .bl (decide (j < i))) (wVar 3) (wC (.int 0)))) (wPar 2 3 (wCons (wVar 3) (wCons (wOp (oI (fun _ j => j ≠ 0) fun i j => .int (i.fmod j)) (wVar 2) (wVar 3)) wNil))))
    (wSeq (wIfS (wTst (wOp (oI CT fun i j => .bl (decide (i < j))) (wVar 1) (wC (.int 0)))) (wSet 2 (wOp (oI CT fun i j => .int (i - j)) (wC (.int 0)) (wVar 2))) wNx)
    (wRet (wTup (wCons (wOp (oI CDivF fun i j => .int (i.fdiv j)) (wVar 0) (wVar 2)) (wCons (wOp (oI CDivF fun i j => .int (i.fdiv j)) (wVar 1) (wVar 2)) wNil)))))))
def q_l_frac (K : PySem.W.Frag) (Z : Ad) : Fn := fnOf 2 2 (w_l_frac K Z)
theorem ok_l_frac (T : Txt K mg Z) : FnG P w K mg base (L2.CX P w) 1 Z.f_l_frac Z.d_l_frac ["_law_up", "_law_down"] (spF K 2 (q_l_frac K Z)) :=
  (def_ok T.F_l_frac (u := w_l_frac K Z) sc_l_frac rfl rfl fun cdv A outer s H E hr =>
    (ss_cons (s_par (i := 2) (j := 3) rfl sc_l_frac.nd (xa_cons (x_callB b_abs T.N_abs rfl (xa_cons (x_var 0) xa_nil)) (xa_cons (x_callB b_abs T.N_abs rfl (xa_cons (x_var 1) xa_nil)) xa_nil)))
    (ss_cons (s_while (passes_of rfl) (x_tst (o_gt) (x_var 3) x_int (nomark _)) (ss_one (s_par (i := 2) (j := 3) rfl sc_l_frac.nd (xa_cons (x_var 3) (xa_cons (x_bin o_mod (x_var 2) (x_var 3)) xa_nil)))))
    (ss_cons (s_if (x_tst (o_lt) (x_var 1) x_int (nomark _)) (ss_one (s_set 2 sc_l_frac.nd (x_bin o_sub x_int (x_var 2)))) ss_nil)
    (ss_one (s_ret (x_tup (xa_cons (x_bin o_fdivF (x_var 0) (x_var 2)) (xa_cons (x_bin o_fdivF (x_var 1) (x_var 2)) xa_nil)))))))))
def w_Ratio_init (K : PySem.W.Frag) (Z : Ad) : Ws := (wSeq (wIfS (wTst (wOp (oEqD) (wVar 2) (wC (.int 0)))) (wRaise0 Z.C_ByZero) wNx)
    (wSeq (wSet 3 (wCB zGcd (wCons (wVar 1) (wCons (wVar 2) wNil))))
    (wSeq (wIfS (wTst (wOp (oI CT fun i j => .bl (decide (i < j))) (wVar 2) (wC (.int 0)))) (wSet 3 (wUn (fun d P => ∃ i, d = .int i ∧ P (.int (-i))) (wVar 3))) wNx)
    (wSeq (wStF 0 Z.C_Ratio "_top" (wOp (oI CDivF fun i j => .int (i.fdiv j)) (wVar 1) (wVar 3)))
    (wStF 0 Z.C_Ratio "_bottom" (wOp (oI CDivF fun i j => .int (i.fdiv j)) (wVar 2) (wVar 3)))))))
def q_Ratio_init (K : PySem.W.Frag) (Z : Ad) : Fn := fnInit 3 1 (w_Ratio_init K Z)
theorem ok_Ratio_init (T : Txt K mg Z) : FnG P w K mg base (L2.CX P w) 1 Z.f_Ratio_init Z.d_Ratio_init ["self", "top", "bottom"] (spF K 3 (q_Ratio_init K Z)) :=
  (def_okD T.F_Ratio_init (u := w_Ratio_init K Z) sc_Ratio_init rfl rfl fun cdv A outer s H E hr =>
    (ss_cons (s_if (x_tst (o_eqU hr.r.units) (x_var 2) x_int (nomark _)) (ss_one (s_raise0 rfl (takes_of rfl rfl rfl rfl) T.E0_ByZero)) ss_nil)
    (ss_cons (s_set 3 sc_Ratio_init.nd (x_callBf b_gcd T.G_gcd (xa_cons (x_var 1) (xa_cons (x_var 2) xa_nil))))
    (ss_cons (s_if (x_tst (o_lt) (x_var 2) x_int (nomark _)) (ss_one (s_set 3 sc_Ratio_init.nd (x_un o_neg (x_var 3)))) ss_nil)
    (ss_cons (s_fld 0 T.cl_Ratio T.NA_Ratio__top (x_bin o_fdivF (x_var 1) (x_var 3)))
    (ss_one (s_fld 0 T.cl_Ratio T.NA_Ratio__bottom (x_bin o_fdivF (x_var 2) (x_var 3))))))))).init
def w_Ratio_top (K : PySem.W.Frag) (Z : Ad) : Ws := (wRet (wFld Z.C_Ratio "_top" (wVar 0)))
def q_Ratio_top (K : PySem.W.Frag) (Z : Ad) : Fn := fnOf 1 0 (w_Ratio_top K Z)
theorem ok_Ratio_top (T : Txt K mg Z) : FnG P w K mg base (L2.CX P w) 1 Z.f_Ratio_top Z.d_Ratio_top ["self"] (spF K 1 (q_Ratio_top K Z)) :=
  (def_ok T.F_Ratio_top (u := w_Ratio_top K Z) sc_Ratio_top rfl rfl fun cdv A outer s H E hr =>
    (ss_one (s_ret (x_fld (x_var 0) T.cl_Ratio T.NA_Ratio__top))))
def w_Ratio_bottom (K : PySem.W.Frag) (Z : Ad) : Ws := (wRet (wFld Z.C_Ratio "_bottom" (wVar 0)))
def q_Ratio_bottom (K : PySem.W.Frag) (Z : Ad) : Fn := fnOf 1 0 (w_Ratio_bottom K Z)
theorem ok_Ratio_bottom (T : Txt K mg Z) : FnG P w K mg base (L2.CX P w) 1 Z.f_Ratio_bottom Z.d_Ratio_bottom ["self"] (spF K 1 (q_Ratio_bottom K Z)) :=
  (def_ok T.F_Ratio_bottom (u := w_Ratio_bottom K Z) sc_Ratio_bottom rfl rfl fun cdv A outer s H E hr =>
    (ss_one (s_ret (x_fld (x_var 0) T.cl_Ratio T.NA_Ratio__bottom))))
def w_l_is (K : PySem.W.Frag) (Z : Ad) : Ws := (wRet (wAnd (wCB (zIsi K) (wCons (wVar 0) (wCons (wC (.adr Z.C_Ratio)) wNil))) (wOp (oEqD) (wTup (wCons (wProp Z.C_Ratio (q_Ratio_top K Z) (wVar 0)) (wCons (wProp Z.C_Ratio (q_Ratio_bottom K Z) (wVar 0)) wNil))) (wVar 1))))
def q_l_is (K : PySem.W.Frag) (Z : Ad) : Fn := fnOf 2 0 (w_l_is K Z)
theorem ok_l_is (T : Txt K mg Z) : FnG P w K mg base (L2.CX P w) 3 Z.f_l_is Z.d_l_is ["_law_amount", "_law_due"] (spF K 2 (q_l_is K Z)) :=
  (def_ok T.F_l_is (u := w_l_is K Z) sc_l_is rfl rfl fun cdv A outer s H E hr =>
    (ss_one (s_ret (x_and (x_callB b_isi T.N_isinstance rfl (xa_cons (x_var 0) (xa_cons (x_gl T.G_Ratio) xa_nil))) (x_one (x_cmp (o_eqU hr.r.units) (x_tup (xa_cons (x_prop (x_var 0) T.cl_Ratio T.P_Ratio_top (ok_Ratio_top (P := P) (w := w) (base := base) T) (hr.mono (by decide)) T.B_Ratio_top hf_of) (xa_cons (x_prop (x_var 0) T.cl_Ratio T.P_Ratio_bottom (ok_Ratio_bottom (P := P) (w := w) (base := base) T) (hr.mono (by decide)) T.B_Ratio_bottom hf_of) xa_nil))) (x_var 1) (nomark _)))))))
def w_Ratio_neg (K : PySem.W.Frag) (Z : Ad) : Ws := (wRet (wMake Z.C_Ratio (q_Ratio_init K Z) [] (wCons (wUn (fun d P => ∃ i, d = .int i ∧ P (.int (-i))) (wFld Z.C_Ratio "_top" (wVar 0))) (wCons (wFld Z.C_Ratio "_bottom" (wVar 0)) wNil))))
def q_Ratio_neg (K : PySem.W.Frag) (Z : Ad) : Fn := fnOf 1 0 (w_Ratio_neg K Z)
theorem ok_Ratio_neg (T : Txt K mg Z) : FnG P w K mg base (L2.CX P w) 3 Z.f_Ratio_neg Z.d_Ratio_neg ["self"] (spF K 1 (q_Ratio_neg K Z)) :=
  (def_ok T.F_Ratio_neg (u := w_Ratio_neg K Z) sc_Ratio_neg rfl rfl fun cdv A outer s H E hr =>
    (ss_one (s_ret (x_make T.K_Ratio (ok_Ratio_init (P := P) (w := w) (base := base) T) (hr.mono (by decide)) T.G_Ratio T.B_Ratio_init .nil hdd0 (takes_of rfl rfl rfl rfl) hf_init hn_init (xa_cons (x_un o_neg (x_fld (x_var 0) T.cl_Ratio T.NA_Ratio__top)) (xa_cons (x_fld (x_var 0) T.cl_Ratio T.NA_Ratio__bottom) xa_nil))))))
def w_is_integer (K : PySem.W.Frag) (Z : Ad) : Ws := (wRet (wAnd (wCB (zIsi K) (wCons (wVar 0) (wCons (wC (.ty "int")) wNil))) (wNot (wCB (zIsi K) (wCons (wVar 0) (wCons (wC (.ty "bool")) wNil))))))
def q_is_integer (K : PySem.W.Frag) (Z : Ad) : Fn := fnOf 1 0 (w_is_integer K Z)
theorem ok_is_integer (T : Txt K mg Z) : FnG P w K mg base (L2.CX P w) 1 Z.f_is_integer Z.d_is_integer ["given"] (spF K 1 (q_is_integer K Z)) :=
  (def_ok T.F_is_integer (u := w_is_integer K Z) sc_is_integer rfl rfl fun cdv A outer s H E hr =>
    (ss_one (s_ret (x_and (x_callB b_isi T.N_isinstance rfl (xa_cons (x_var 0) (xa_cons (x_ty T.N_int rfl) xa_nil))) (x_one (x_not (x_callB b_isi T.N_isinstance rfl (xa_cons (x_var 0) (xa_cons (x_ty T.N_bool rfl) xa_nil)))))))))
def w_is_number (K : PySem.W.Frag) (Z : Ad) : Ws := (wRet (wOr (wCB (zIsi K) (wCons (wVar 0) (wCons (wC (.adr Z.C_Ratio)) wNil))) (wCall (q_is_integer K Z) [] (wCons (wVar 0) wNil))))
def q_is_number (K : PySem.W.Frag) (Z : Ad) : Fn := fnOf 1 0 (w_is_number K Z)
theorem ok_is_number (T : Txt K mg Z) : FnG P w K mg base (L2.CX P w) 2 Z.f_is_number Z.d_is_number ["given"] (spF K 1 (q_is_number K Z)) :=
  (def_ok T.F_is_number (u := w_is_number K Z) sc_is_number rfl rfl fun cdv A outer s H E hr =>
    (ss_one (s_ret (x_or (x_callB b_isi T.N_isinstance rfl (xa_cons (x_var 0) (xa_cons (x_gl T.G_Ratio) xa_nil))) (x_one (x_call (ok_is_integer (P := P) (w := w) (base := base) T) (hr.mono (by decide)) T.G_is_integer T.F_is_integer.kp T.B_is_integer .nil hdd0 (takes_of rfl rfl rfl rfl) hf_of (xa_cons (x_var 0) xa_nil)))))))
theorem xok_BadNumber_init (T : Txt K mg Z) : FnOk P w K mg base (L2.CX P w) 1 Z.f_BadNumber_init Z.d_BadNumber_init ["self", "given"] (spXI Z.C_BadNumber "given") :=
  xinit_ok T.F_BadNumber_init T.E1_BadNumber ⟨rfl, rfl, rfl, by decide +kernel, rfl, by decide +kernel, by decide +kernel⟩ rfl (by decide) (by decide) rfl rfl
def w_as_ratio (K : PySem.W.Frag) (Z : Ad) : Ws := (wSeq (wIfS (wTru (wCB (zIsi K) (wCons (wVar 0) (wCons (wC (.adr Z.C_Ratio)) wNil)))) (wRet (wVar 0)) wNx)
    (wSeq (wIfS (wNotT (wTru (wCall (q_is_integer K Z) [] (wCons (wVar 0) wNil)))) (wRaise1 Z.C_BadNumber "given" (wVar 0)) wNx)
    (wRet (wMake Z.C_Ratio (q_Ratio_init K Z) [D.int 1] (wCons (wVar 0) wNil)))))
def q_as_ratio (K : PySem.W.Frag) (Z : Ad) : Fn := fnOf 1 0 (w_as_ratio K Z)
theorem ok_as_ratio (T : Txt K mg Z) : FnG P w K mg base (L2.CX P w) 3 Z.f_as_ratio Z.d_as_ratio ["given"] (spF K 1 (q_as_ratio K Z)) :=
  (def_ok T.F_as_ratio (u := w_as_ratio K Z) sc_as_ratio rfl rfl fun cdv A outer s H E hr =>
    (ss_cons (s_if (x_tru (x_callB b_isi T.N_isinstance rfl (xa_cons (x_var 0) (xa_cons (x_gl T.G_Ratio) xa_nil)))) (ss_one (s_ret (x_var 0))) ss_nil)
    (ss_cons (s_if (x_notT (x_tru (x_call (ok_is_integer (P := P) (w := w) (base := base) T) (hr.mono (by decide)) T.G_is_integer T.F_is_integer.kp T.B_is_integer .nil hdd0 (takes_of rfl rfl rfl rfl) hf_of (xa_cons (x_var 0) xa_nil)))) (ss_one (s_raise1 rfl (takes_of rfl rfl rfl rfl) T.E1_BadNumber (xok_BadNumber_init (P := P) (w := w) (base := base) T) (hr.mono (by decide)) T.B_BadNumber_init (x_var 0))) ss_nil)
    (ss_one (s_ret (x_make T.K_Ratio (ok_Ratio_init (P := P) (w := w) (base := base) T) (hr.mono (by decide)) T.G_Ratio T.B1_Ratio_init T.V1_Ratio_init hdd1 (takes_of rfl rfl rfl rfl) hf_init hn_init (xa_cons (x_var 0) xa_nil)))))))
def w_Ratio_add (K : PySem.W.Frag) (Z : Ad) : Ws := (wSeq (wIfS (wNotT (wTru (wCall (q_is_number K Z) [] (wCons (wVar 1) wNil)))) wOff wNx)
    (wSeq (wSet 2 (wCall (q_as_ratio K Z) [] (wCons (wVar 1) wNil)))
    (wRet (wMake Z.C_Ratio (q_Ratio_init K Z) [] (wCons (wOp (oI CT fun i j => .int (i + j)) (wOp (oI CMulW fun i j => .int (i * j)) (wFld Z.C_Ratio "_top" (wVar 0)) (wProp Z.C_Ratio (q_Ratio_bottom K Z) (wVar 2))) (wOp (oI CMulW fun i j => .int (i * j)) (wProp Z.C_Ratio (q_Ratio_top K Z) (wVar 2)) (wFld Z.C_Ratio "_bottom" (wVar 0)))) (wCons (wOp (oI CMulW fun i j => .int (i * j)) (wFld Z.C_Ratio "_bottom" (wVar 0)) (wProp Z.C_Ratio (q_Ratio_bottom K Z) (wVar 2))) wNil))))))
def q_Ratio_add (K : PySem.W.Frag) (Z : Ad) : Fn := fnOf 2 1 (w_Ratio_add K Z)
theorem ok_Ratio_add (T : Txt K mg Z) : FnG P w K mg base (L2.CX P w) 4 Z.f_Ratio_add Z.d_Ratio_add ["self", "other"] (spF K 2 (q_Ratio_add K Z)) :=
  (def_ok T.F_Ratio_add (u := w_Ratio_add K Z) sc_Ratio_add rfl rfl fun cdv A outer s H E hr =>
    (ss_cons (s_if (x_notT (x_tru (x_call (ok_is_number (P := P) (w := w) (base := base) T) (hr.mono (by decide)) T.G_is_number T.F_is_number.kp T.B_is_number .nil hdd0 (takes_of rfl rfl rfl rfl) hf_of (xa_cons (x_var 1) xa_nil)))) ss_off ss_nil)
    (ss_cons (s_set 2 sc_Ratio_add.nd (x_call (ok_as_ratio (P := P) (w := w) (base := base) T) (hr.mono (by decide)) T.G_as_ratio T.F_as_ratio.kp T.B_as_ratio .nil hdd0 (takes_of rfl rfl rfl rfl) hf_of (xa_cons (x_var 1) xa_nil)))
    (ss_one (s_ret (x_make T.K_Ratio (ok_Ratio_init (P := P) (w := w) (base := base) T) (hr.mono (by decide)) T.G_Ratio T.B_Ratio_init .nil hdd0 (takes_of rfl rfl rfl rfl) hf_init hn_init (xa_cons (x_bin o_add (x_bin o_mul (x_fld (x_var 0) T.cl_Ratio T.NA_Ratio__top) (x_prop (x_var 2) T.cl_Ratio T.P_Ratio_bottom (ok_Ratio_bottom (P := P) (w := w) (base := base) T) (hr.mono (by decide)) T.B_Ratio_bottom hf_of)) (x_bin o_mul (x_prop (x_var 2) T.cl_Ratio T.P_Ratio_top (ok_Ratio_top (P := P) (w := w) (base := base) T) (hr.mono (by decide)) T.B_Ratio_top hf_of) (x_fld (x_var 0) T.cl_Ratio T.NA_Ratio__bottom))) (xa_cons (x_bin o_mul (x_fld (x_var 0) T.cl_Ratio T.NA_Ratio__bottom) (x_prop (x_var 2) T.cl_Ratio T.P_Ratio_bottom (ok_Ratio_bottom (P := P) (w := w) (base := base) T) (hr.mono (by decide)) T.B_Ratio_bottom hf_of)) xa_nil))))))))
def w_l_plus (K : PySem.W.Frag) (Z : Ad) : Ws := (wRet (wCall (q_l_frac K Z) [] (wCons (wOp (oI CT fun i j => .int (i + j)) (wOp (oI CMulW fun i j => .int (i * j)) (wOp oIx (wVar 0) (wC (.int 0))) (wOp oIx (wVar 1) (wC (.int 1)))) (wOp (oI CMulW fun i j => .int (i * j)) (wOp oIx (wVar 1) (wC (.int 0))) (wOp oIx (wVar 0) (wC (.int 1))))) (wCons (wOp (oI CMulW fun i j => .int (i * j)) (wOp oIx (wVar 0) (wC (.int 1))) (wOp oIx (wVar 1) (wC (.int 1)))) wNil))))
def q_l_plus (K : PySem.W.Frag) (Z : Ad) : Fn := fnOf 2 0 (w_l_plus K Z)
theorem ok_l_plus (T : Txt K mg Z) : FnG P w K mg base (L2.CX P w) 2 Z.f_l_plus Z.d_l_plus ["_law_x", "_law_y"] (spF K 2 (q_l_plus K Z)) :=
  (def_ok T.F_l_plus (u := w_l_plus K Z) sc_l_plus rfl rfl fun cdv A outer s H E hr =>
    (ss_one (s_ret (x_call (ok_l_frac (P := P) (w := w) (base := base) T) (hr.mono (by decide)) T.G_l_frac T.F_l_frac.kp T.B_l_frac .nil hdd0 (takes_of rfl rfl rfl rfl) hf_of (xa_cons (x_bin o_add (x_bin o_mul (x_ix (x_var 0) x_int (fun _ _ => rfl)) (x_ix (x_var 1) x_int (fun _ _ => rfl))) (x_bin o_mul (x_ix (x_var 1) x_int (fun _ _ => rfl)) (x_ix (x_var 0) x_int (fun _ _ => rfl)))) (xa_cons (x_bin o_mul (x_ix (x_var 0) x_int (fun _ _ => rfl)) (x_ix (x_var 1) x_int (fun _ _ => rfl))) xa_nil))))))
def w_crossed (K : PySem.W.Frag) (Z : Ad) : Ws := (wRet (wOp (oI CT fun i j => .int (i - j)) (wOp (oI CMulW fun i j => .int (i * j)) (wProp Z.C_Ratio (q_Ratio_top K Z) (wVar 0)) (wProp Z.C_Ratio (q_Ratio_bottom K Z) (wVar 1))) (wOp (oI CMulW fun i j => .int (i * j)) (wProp Z.C_Ratio (q_Ratio_top K Z) (wVar 1)) (wProp Z.C_Ratio (q_Ratio_bottom K Z) (wVar 0)))))
def q_crossed (K : PySem.W.Frag) (Z : Ad) : Fn := fnOf 2 0 (w_crossed K Z)
theorem ok_crossed (T : Txt K mg Z) : FnG P w K mg base (L2.CX P w) 3 Z.f_crossed Z.d_crossed ["one", "other"] (spF K 2 (q_crossed K Z)) :=
  (def_ok T.F_crossed (u := w_crossed K Z) sc_crossed rfl rfl fun cdv A outer s H E hr =>
    (ss_one (s_ret (x_bin o_sub (x_bin o_mul (x_prop (x_var 0) T.cl_Ratio T.P_Ratio_top (ok_Ratio_top (P := P) (w := w) (base := base) T) (hr.mono (by decide)) T.B_Ratio_top hf_of) (x_prop (x_var 1) T.cl_Ratio T.P_Ratio_bottom (ok_Ratio_bottom (P := P) (w := w) (base := base) T) (hr.mono (by decide)) T.B_Ratio_bottom hf_of)) (x_bin o_mul (x_prop (x_var 1) T.cl_Ratio T.P_Ratio_top (ok_Ratio_top (P := P) (w := w) (base := base) T) (hr.mono (by decide)) T.B_Ratio_top hf_of) (x_prop (x_var 0) T.cl_Ratio T.P_Ratio_bottom (ok_Ratio_bottom (P := P) (w := w) (base := base) T) (hr.mono (by decide)) T.B_Ratio_bottom hf_of))))))
def w_Ratio_sub (K : PySem.W.Frag) (Z : Ad) : Ws := (wSeq (wIfS (wNotT (wTru (wCall (q_is_number K Z) [] (wCons (wVar 1) wNil)))) wOff wNx)
    (wRet (wMake Z.C_Ratio (q_Ratio_init K Z) [] (wCons (wCall (q_crossed K Z) [] (wCons (wVar 0) (wCons (wCall (q_as_ratio K Z) [] (wCons (wVar 1) wNil)) wNil))) (wCons (wOp (oI CMulW fun i j => .int (i * j)) (wFld Z.C_Ratio "_bottom" (wVar 0)) (wProp Z.C_Ratio (q_Ratio_bottom K Z) (wCall (q_as_ratio K Z) [] (wCons (wVar 1) wNil)))) wNil)))))
def q_Ratio_sub (K : PySem.W.Frag) (Z : Ad) : Fn := fnOf 2 0 (w_Ratio_sub K Z)
theorem ok_Ratio_sub (T : Txt K mg Z) : FnG P w K mg base (L2.CX P w) 4 Z.f_Ratio_sub Z.d_Ratio_sub ["self", "other"] (spF K 2 (q_Ratio_sub K Z)) :=
  (def_ok T.F_Ratio_sub (u := w_Ratio_sub K Z) sc_Ratio_sub rfl rfl fun cdv A outer s H E hr =>
    (ss_cons (s_if (x_notT (x_tru (x_call (ok_is_number (P := P) (w := w) (base := base) T) (hr.mono (by decide)) T.G_is_number T.F_is_number.kp T.B_is_number .nil hdd0 (takes_of rfl rfl rfl rfl) hf_of (xa_cons (x_var 1) xa_nil)))) ss_off ss_nil)
    (ss_one (s_ret (x_make T.K_Ratio (ok_Ratio_init (P := P) (w := w) (base := base) T) (hr.mono (by decide)) T.G_Ratio T.B_Ratio_init .nil hdd0 (takes_of rfl rfl rfl rfl) hf_init hn_init (xa_cons (x_call (ok_crossed (P := P) (w := w) (base := base) T) (hr.mono (by decide)) T.G_crossed T.F_crossed.kp T.B_crossed .nil hdd0 (takes_of rfl rfl rfl rfl) hf_of (xa_cons (x_var 0) (xa_cons (x_call (ok_as_ratio (P := P) (w := w) (base := base) T) (hr.mono (by decide)) T.G_as_ratio T.F_as_ratio.kp T.B_as_ratio .nil hdd0 (takes_of rfl rfl rfl rfl) hf_of (xa_cons (x_var 1) xa_nil)) xa_nil))) (xa_cons (x_bin o_mul (x_fld (x_var 0) T.cl_Ratio T.NA_Ratio__bottom) (x_prop (x_call (ok_as_ratio (P := P) (w := w) (base := base) T) (hr.mono (by decide)) T.G_as_ratio T.F_as_ratio.kp T.B_as_ratio .nil hdd0 (takes_of rfl rfl rfl rfl) hf_of (xa_cons (x_var 1) xa_nil)) T.cl_Ratio T.P_Ratio_bottom (ok_Ratio_bottom (P := P) (w := w) (base := base) T) (hr.mono (by decide)) T.B_Ratio_bottom hf_of)) xa_nil)))))))
def w_l_minus (K : PySem.W.Frag) (Z : Ad) : Ws := (wRet (wCall (q_l_frac K Z) [] (wCons (wOp (oI CT fun i j => .int (i - j)) (wOp (oI CMulW fun i j => .int (i * j)) (wOp oIx (wVar 0) (wC (.int 0))) (wOp oIx (wVar 1) (wC (.int 1)))) (wOp (oI CMulW fun i j => .int (i * j)) (wOp oIx (wVar 1) (wC (.int 0))) (wOp oIx (wVar 0) (wC (.int 1))))) (wCons (wOp (oI CMulW fun i j => .int (i * j)) (wOp oIx (wVar 0) (wC (.int 1))) (wOp oIx (wVar 1) (wC (.int 1)))) wNil))))
def q_l_minus (K : PySem.W.Frag) (Z : Ad) : Fn := fnOf 2 0 (w_l_minus K Z)
theorem ok_l_minus (T : Txt K mg Z) : FnG P w K mg base (L2.CX P w) 2 Z.f_l_minus Z.d_l_minus ["_law_x", "_law_y"] (spF K 2 (q_l_minus K Z)) :=
  (def_ok T.F_l_minus (u := w_l_minus K Z) sc_l_minus rfl rfl fun cdv A outer s H E hr =>
    (ss_one (s_ret (x_call (ok_l_frac (P := P) (w := w) (base := base) T) (hr.mono (by decide)) T.G_l_frac T.F_l_frac.kp T.B_l_frac .nil hdd0 (takes_of rfl rfl rfl rfl) hf_of (xa_cons (x_bin o_sub (x_bin o_mul (x_ix (x_var 0) x_int (fun _ _ => rfl)) (x_ix (x_var 1) x_int (fun _ _ => rfl))) (x_bin o_mul (x_ix (x_var 1) x_int (fun _ _ => rfl)) (x_ix (x_var 0) x_int (fun _ _ => rfl)))) (xa_cons (x_bin o_mul (x_ix (x_var 0) x_int (fun _ _ => rfl)) (x_ix (x_var 1) x_int (fun _ _ => rfl))) xa_nil))))))
def w_Ratio_mul (K : PySem.W.Frag) (Z : Ad) : Ws := (wSeq (wIfS (wNotT (wTru (wCall (q_is_number K Z) [] (wCons (wVar 1) wNil)))) wOff wNx)
    (wSeq (wSet 2 (wCall (q_as_ratio K Z) [] (wCons (wVar 1) wNil)))
    (wRet (wMake Z.C_Ratio (q_Ratio_init K Z) [] (wCons (wOp (oI CMulW fun i j => .int (i * j)) (wFld Z.C_Ratio "_top" (wVar 0)) (wProp Z.C_Ratio (q_Ratio_top K Z) (wVar 2))) (wCons (wOp (oI CMulW fun i j => .int (i * j)) (wFld Z.C_Ratio "_bottom" (wVar 0)) (wProp Z.C_Ratio (q_Ratio_bottom K Z) (wVar 2))) wNil))))))
def q_Ratio_mul (K : PySem.W.Frag) (Z : Ad) : Fn := fnOf 2 1 (w_Ratio_mul K Z)
theorem ok_Ratio_mul (T : Txt K mg Z) : FnG P w K mg base (L2.CX P w) 4 Z.f_Ratio_mul Z.d_Ratio_mul ["self", "other"] (spF K 2 (q_Ratio_mul K Z)) :=
  (def_ok T.F_Ratio_mul (u := w_Ratio_mul K Z) sc_Ratio_mul rfl rfl fun cdv A outer s H E hr =>
    (ss_cons (s_if (x_notT (x_tru (x_call (ok_is_number (P := P) (w := w) (base := base) T) (hr.mono (by decide)) T.G_is_number T.F_is_number.kp T.B_is_number .nil hdd0 (takes_of rfl rfl rfl rfl) hf_of (xa_cons (x_var 1) xa_nil)))) ss_off ss_nil)
    (ss_cons (s_set 2 sc_Ratio_mul.nd (x_call (ok_as_ratio (P := P) (w := w) (base := base) T) (hr.mono (by decide)) T.G_as_ratio T.F_as_ratio.kp T.B_as_ratio .nil hdd0 (takes_of rfl rfl rfl rfl) hf_of (xa_cons (x_var 1) xa_nil)))
    (ss_one (s_ret (x_make T.K_Ratio (ok_Ratio_init (P := P) (w := w) (base := base) T) (hr.mono (by decide)) T.G_Ratio T.B_Ratio_init .nil hdd0 (takes_of rfl rfl rfl rfl) hf_init hn_init (xa_cons (x_bin o_mul (x_fld (x_var 0) T.cl_Ratio T.NA_Ratio__top) (x_prop (x_var 2) T.cl_Ratio T.P_Ratio_top (ok_Ratio_top (P := P) (w := w) (base := base) T) (hr.mono (by decide)) T.B_Ratio_top hf_of)) (xa_cons (x_bin o_mul (x_fld (x_var 0) T.cl_Ratio T.NA_Ratio__bottom) (x_prop (x_var 2) T.cl_Ratio T.P_Ratio_bottom (ok_Ratio_bottom (P := P) (w := w) (base := base) T) (hr.mono (by decide)) T.B_Ratio_bottom hf_of)) xa_nil))))))))
def w_l_times (K : PySem.W.Frag) (Z : Ad) : Ws := (wRet (wCall (q_l_frac K Z) [] (wCons (wOp (oI CMulW fun i j => .int (i * j)) (wOp oIx (wVar 0) (wC (.int 0))) (wOp oIx (wVar 1) (wC (.int 0)))) (wCons (wOp (oI CMulW fun i j => .int (i * j)) (wOp oIx (wVar 0) (wC (.int 1))) (wOp oIx (wVar 1) (wC (.int 1)))) wNil))))
def q_l_times (K : PySem.W.Frag) (Z : Ad) : Fn := fnOf 2 0 (w_l_times K Z)
theorem ok_l_times (T : Txt K mg Z) : FnG P w K mg base (L2.CX P w) 2 Z.f_l_times Z.d_l_times ["_law_x", "_law_y"] (spF K 2 (q_l_times K Z)) :=
  (def_ok T.F_l_times (u := w_l_times K Z) sc_l_times rfl rfl fun cdv A outer s H E hr =>
    (ss_one (s_ret (x_call (ok_l_frac (P := P) (w := w) (base := base) T) (hr.mono (by decide)) T.G_l_frac T.F_l_frac.kp T.B_l_frac .nil hdd0 (takes_of rfl rfl rfl rfl) hf_of (xa_cons (x_bin o_mul (x_ix (x_var 0) x_int (fun _ _ => rfl)) (x_ix (x_var 1) x_int (fun _ _ => rfl))) (xa_cons (x_bin o_mul (x_ix (x_var 0) x_int (fun _ _ => rfl)) (x_ix (x_var 1) x_int (fun _ _ => rfl))) xa_nil))))))
def w_Ratio_eq (K : PySem.W.Frag) (Z : Ad) : Ws := (wRet (wAnd (wCall (q_is_number K Z) [] (wCons (wVar 1) wNil)) (wOp (oEqD) (wCall (q_crossed K Z) [] (wCons (wVar 0) (wCons (wCall (q_as_ratio K Z) [] (wCons (wVar 1) wNil)) wNil))) (wC (.int 0)))))
def q_Ratio_eq (K : PySem.W.Frag) (Z : Ad) : Fn := fnOf 2 0 (w_Ratio_eq K Z)
theorem ok_Ratio_eq (T : Txt K mg Z) : FnG P w K mg base (L2.CX P w) 4 Z.f_Ratio_eq Z.d_Ratio_eq ["self", "other"] (spF K 2 (q_Ratio_eq K Z)) :=
  (def_ok T.F_Ratio_eq (u := w_Ratio_eq K Z) sc_Ratio_eq rfl rfl fun cdv A outer s H E hr =>
    (ss_one (s_ret (x_and (x_call (ok_is_number (P := P) (w := w) (base := base) T) (hr.mono (by decide)) T.G_is_number T.F_is_number.kp T.B_is_number .nil hdd0 (takes_of rfl rfl rfl rfl) hf_of (xa_cons (x_var 1) xa_nil)) (x_one (x_cmp (o_eqU hr.r.units) (x_call (ok_crossed (P := P) (w := w) (base := base) T) (hr.mono (by decide)) T.G_crossed T.F_crossed.kp T.B_crossed .nil hdd0 (takes_of rfl rfl rfl rfl) hf_of (xa_cons (x_var 0) (xa_cons (x_call (ok_as_ratio (P := P) (w := w) (base := base) T) (hr.mono (by decide)) T.G_as_ratio T.F_as_ratio.kp T.B_as_ratio .nil hdd0 (takes_of rfl rfl rfl rfl) hf_of (xa_cons (x_var 1) xa_nil)) xa_nil))) x_int (nomark _)))))))
def w_Ratio_lt (K : PySem.W.Frag) (Z : Ad) : Ws := (wSeq (wIfS (wNotT (wTru (wCall (q_is_number K Z) [] (wCons (wVar 1) wNil)))) wOff wNx)
    (wRet (wOp (oI CT fun i j => .bl (decide (i < j))) (wCall (q_crossed K Z) [] (wCons (wVar 0) (wCons (wCall (q_as_ratio K Z) [] (wCons (wVar 1) wNil)) wNil))) (wC (.int 0)))))
def q_Ratio_lt (K : PySem.W.Frag) (Z : Ad) : Fn := fnOf 2 0 (w_Ratio_lt K Z)
theorem ok_Ratio_lt (T : Txt K mg Z) : FnG P w K mg base (L2.CX P w) 4 Z.f_Ratio_lt Z.d_Ratio_lt ["self", "other"] (spF K 2 (q_Ratio_lt K Z)) :=
  (def_ok T.F_Ratio_lt (u := w_Ratio_lt K Z) sc_Ratio_lt rfl rfl fun cdv A outer s H E hr =>
    (ss_cons (s_if (x_notT (x_tru (x_call (ok_is_number (P := P) (w := w) (base := base) T) (hr.mono (by decide)) T.G_is_number T.F_is_number.kp T.B_is_number .nil hdd0 (takes_of rfl rfl rfl rfl) hf_of (xa_cons (x_var 1) xa_nil)))) ss_off ss_nil)
    (ss_one (s_ret (x_cmp (o_lt) (x_call (ok_crossed (P := P) (w := w) (base := base) T) (hr.mono (by decide)) T.G_crossed T.F_crossed.kp T.B_crossed .nil hdd0 (takes_of rfl rfl rfl rfl) hf_of (xa_cons (x_var 0) (xa_cons (x_call (ok_as_ratio (P := P) (w := w) (base := base) T) (hr.mono (by decide)) T.G_as_ratio T.F_as_ratio.kp T.B_as_ratio .nil hdd0 (takes_of rfl rfl rfl rfl) hf_of (xa_cons (x_var 1) xa_nil)) xa_nil))) x_int (nomark _))))))
def w_l_less (K : PySem.W.Frag) (Z : Ad) : Ws := (wRet (wOp (oI CT fun i j => .bl (decide (i < j))) (wOp (oI CMulW fun i j => .int (i * j)) (wOp oIx (wVar 0) (wC (.int 0))) (wOp oIx (wVar 1) (wC (.int 1)))) (wOp (oI CMulW fun i j => .int (i * j)) (wOp oIx (wVar 1) (wC (.int 0))) (wOp oIx (wVar 0) (wC (.int 1))))))
def q_l_less (K : PySem.W.Frag) (Z : Ad) : Fn := fnOf 2 0 (w_l_less K Z)
theorem ok_l_less (T : Txt K mg Z) : FnG P w K mg base (L2.CX P w) 1 Z.f_l_less Z.d_l_less ["_law_x", "_law_y"] (spF K 2 (q_l_less K Z)) :=
  (def_ok T.F_l_less (u := w_l_less K Z) sc_l_less rfl rfl fun cdv A outer s H E hr =>
    (ss_one (s_ret (x_cmp (o_lt) (x_bin o_mul (x_ix (x_var 0) x_int (fun _ _ => rfl)) (x_ix (x_var 1) x_int (fun _ _ => rfl))) (x_bin o_mul (x_ix (x_var 1) x_int (fun _ _ => rfl)) (x_ix (x_var 0) x_int (fun _ _ => rfl))) (nomark _)))))
def w_Ratio_le (K : PySem.W.Frag) (Z : Ad) : Ws := (wSeq (wIfS (wNotT (wTru (wCall (q_is_number K Z) [] (wCons (wVar 1) wNil)))) wOff wNx)
    (wRet (wOp (oI CT fun i j => .bl (decide (i ≤ j))) (wCall (q_crossed K Z) [] (wCons (wVar 0) (wCons (wCall (q_as_ratio K Z) [] (wCons (wVar 1) wNil)) wNil))) (wC (.int 0)))))
def q_Ratio_le (K : PySem.W.Frag) (Z : Ad) : Fn := fnOf 2 0 (w_Ratio_le K Z)
theorem ok_Ratio_le (T : Txt K mg Z) : FnG P w K mg base (L2.CX P w) 4 Z.f_Ratio_le Z.d_Ratio_le ["self", "other"] (spF K 2 (q_Ratio_le K Z)) :=
  (def_ok T.F_Ratio_le (u := w_Ratio_le K Z) sc_Ratio_le rfl rfl fun cdv A outer s H E hr =>
    (ss_cons (s_if (x_notT (x_tru (x_call (ok_is_number (P := P) (w := w) (base := base) T) (hr.mono (by decide)) T.G_is_number T.F_is_number.kp T.B_is_number .nil hdd0 (takes_of rfl rfl rfl rfl) hf_of (xa_cons (x_var 1) xa_nil)))) ss_off ss_nil)
    (ss_one (s_ret (x_cmp (o_le) (x_call (ok_crossed (P := P) (w := w) (base := base) T) (hr.mono (by decide)) T.G_crossed T.F_crossed.kp T.B_crossed .nil hdd0 (takes_of rfl rfl rfl rfl) hf_of (xa_cons (x_var 0) (xa_cons (x_call (ok_as_ratio (P := P) (w := w) (base := base) T) (hr.mono (by decide)) T.G_as_ratio T.F_as_ratio.kp T.B_as_ratio .nil hdd0 (takes_of rfl rfl rfl rfl) hf_of (xa_cons (x_var 1) xa_nil)) xa_nil))) x_int (nomark _))))))
def w_l_compared (K : PySem.W.Frag) (Z : Ad) : Ws := (wSeq (wIfS (wOrT (wTst (wOp (oNeD) (wOp (oOwn Z.C_Ratio (q_Ratio_eq K Z) (okCmp K Z.C_Ratio)) (wVar 0) (wVar 1)) (wOp (oEqD) (wVar 2) (wVar 3)))) (wTst (wOp (oNeD) (wOp (oOwn Z.C_Ratio (q_Ratio_lt K Z) (okCmp K Z.C_Ratio)) (wVar 0) (wVar 1)) (wCall (q_l_less K Z) [] (wCons (wVar 2) (wCons (wVar 3) wNil)))))) wOff wNx)
    (wRet (wOp (oEqD) (wOp (oOwn Z.C_Ratio (q_Ratio_le K Z) (okCmp K Z.C_Ratio)) (wVar 0) (wVar 1)) (wNot (wCall (q_l_less K Z) [] (wCons (wVar 3) (wCons (wVar 2) wNil)))))))
def q_l_compared (K : PySem.W.Frag) (Z : Ad) : Fn := fnOf 4 0 (w_l_compared K Z)
theorem ok_l_compared (T : Txt K mg Z) : FnG P w K mg base (L2.CX P w) 5 Z.f_l_compared Z.d_l_compared ["_law_one", "_law_other", "_law_x", "_law_y"] (spF K 4 (q_l_compared K Z)) :=
  (def_ok T.F_l_compared (u := w_l_compared K Z) sc_l_compared rfl rfl fun cdv A outer s H E hr =>
    (ss_cons (s_if (x_orT (x_tst (o_neU hr.r.units) (x_cmp (o_ownCmp rfl rfl T.O_Ratio_eq (ok_Ratio_eq (P := P) (w := w) (base := base) T) (hr.mono (by decide)) T.B_Ratio_eq hf_of) (x_var 0) (x_var 1) (nomark _)) (x_cmp (o_eqU hr.r.units) (x_var 2) (x_var 3) (nomark _)) (nomark _)) (x_or1 (x_tst (o_neU hr.r.units) (x_cmp (o_ownCmp rfl rfl T.O_Ratio_lt (ok_Ratio_lt (P := P) (w := w) (base := base) T) (hr.mono (by decide)) T.B_Ratio_lt hf_of) (x_var 0) (x_var 1) (nomark _)) (x_call (ok_l_less (P := P) (w := w) (base := base) T) (hr.mono (by decide)) T.G_l_less T.F_l_less.kp T.B_l_less .nil hdd0 (takes_of rfl rfl rfl rfl) hf_of (xa_cons (x_var 2) (xa_cons (x_var 3) xa_nil))) (nomark _)))).pt ss_off ss_nil)
    (ss_one (s_ret (x_cmp (o_eqU hr.r.units) (x_cmp (o_ownCmp rfl rfl T.O_Ratio_le (ok_Ratio_le (P := P) (w := w) (base := base) T) (hr.mono (by decide)) T.B_Ratio_le hf_of) (x_var 0) (x_var 1) (nomark _)) (x_not (x_call (ok_l_less (P := P) (w := w) (base := base) T) (hr.mono (by decide)) T.G_l_less T.F_l_less.kp T.B_l_less .nil hdd0 (takes_of rfl rfl rfl rfl) hf_of (xa_cons (x_var 3) (xa_cons (x_var 2) xa_nil)))) (nomark _))))))
def w_Ratio_over (K : PySem.W.Frag) (Z : Ad) : Ws := (wSeq (wSet 2 (wCall (q_as_ratio K Z) [] (wCons (wVar 1) wNil)))
    (wRet (wMake Z.C_Ratio (q_Ratio_init K Z) [] (wCons (wOp (oI CMulW fun i j => .int (i * j)) (wFld Z.C_Ratio "_top" (wVar 0)) (wProp Z.C_Ratio (q_Ratio_bottom K Z) (wVar 2))) (wCons (wOp (oI CMulW fun i j => .int (i * j)) (wFld Z.C_Ratio "_bottom" (wVar 0)) (wProp Z.C_Ratio (q_Ratio_top K Z) (wVar 2))) wNil)))))
def q_Ratio_over (K : PySem.W.Frag) (Z : Ad) : Fn := fnOf 2 1 (w_Ratio_over K Z)
theorem ok_Ratio_over (T : Txt K mg Z) : FnG P w K mg base (L2.CX P w) 4 Z.f_Ratio_over Z.d_Ratio_over ["self", "number"] (spF K 2 (q_Ratio_over K Z)) :=
  (def_ok T.F_Ratio_over (u := w_Ratio_over K Z) sc_Ratio_over rfl rfl fun cdv A outer s H E hr =>
    (ss_cons (s_set 2 sc_Ratio_over.nd (x_call (ok_as_ratio (P := P) (w := w) (base := base) T) (hr.mono (by decide)) T.G_as_ratio T.F_as_ratio.kp T.B_as_ratio .nil hdd0 (takes_of rfl rfl rfl rfl) hf_of (xa_cons (x_var 1) xa_nil)))
    (ss_one (s_ret (x_make T.K_Ratio (ok_Ratio_init (P := P) (w := w) (base := base) T) (hr.mono (by decide)) T.G_Ratio T.B_Ratio_init .nil hdd0 (takes_of rfl rfl rfl rfl) hf_init hn_init (xa_cons (x_bin o_mul (x_fld (x_var 0) T.cl_Ratio T.NA_Ratio__top) (x_prop (x_var 2) T.cl_Ratio T.P_Ratio_bottom (ok_Ratio_bottom (P := P) (w := w) (base := base) T) (hr.mono (by decide)) T.B_Ratio_bottom hf_of)) (xa_cons (x_bin o_mul (x_fld (x_var 0) T.cl_Ratio T.NA_Ratio__bottom) (x_prop (x_var 2) T.cl_Ratio T.P_Ratio_top (ok_Ratio_top (P := P) (w := w) (base := base) T) (hr.mono (by decide)) T.B_Ratio_top hf_of)) xa_nil)))))))
def w_lesser (K : PySem.W.Frag) (Z : Ad) : Ws := (wSeq (wPar 2 3 (wCons (wCall (q_as_ratio K Z) [] (wCons (wVar 0) wNil)) (wCons (wCall (q_as_ratio K Z) [] (wCons (wVar 1) wNil)) wNil)))
    (wRet (wIf (wTst (wOp (oOwn Z.C_Ratio (q_Ratio_lt K Z) (okCmp K Z.C_Ratio)) (wVar 2) (wVar 3))) (wVar 2) (wVar 3))))
def q_lesser (K : PySem.W.Frag) (Z : Ad) : Fn := fnOf 2 2 (w_lesser K Z)
theorem ok_lesser (T : Txt K mg Z) : FnG P w K mg base (L2.CX P w) 5 Z.f_lesser Z.d_lesser ["one", "other"] (spF K 2 (q_lesser K Z)) :=
  (def_ok T.F_lesser (u := w_lesser K Z) sc_lesser rfl rfl fun cdv A outer s H E hr =>
    (ss_cons (s_par (i := 2) (j := 3) rfl sc_lesser.nd (xa_cons (x_call (ok_as_ratio (P := P) (w := w) (base := base) T) (hr.mono (by decide)) T.G_as_ratio T.F_as_ratio.kp T.B_as_ratio .nil hdd0 (takes_of rfl rfl rfl rfl) hf_of (xa_cons (x_var 0) xa_nil)) (xa_cons (x_call (ok_as_ratio (P := P) (w := w) (base := base) T) (hr.mono (by decide)) T.G_as_ratio T.F_as_ratio.kp T.B_as_ratio .nil hdd0 (takes_of rfl rfl rfl rfl) hf_of (xa_cons (x_var 1) xa_nil)) xa_nil)))
    (ss_one (s_ret (x_if (x_tst (o_ownCmp rfl rfl T.O_Ratio_lt (ok_Ratio_lt (P := P) (w := w) (base := base) T) (hr.mono (by decide)) T.B_Ratio_lt hf_of) (x_var 2) (x_var 3) (nomark _)) (x_var 2) (x_var 3))))))
def w_greater (K : PySem.W.Frag) (Z : Ad) : Ws := (wSeq (wPar 2 3 (wCons (wCall (q_as_ratio K Z) [] (wCons (wVar 0) wNil)) (wCons (wCall (q_as_ratio K Z) [] (wCons (wVar 1) wNil)) wNil)))
    (wRet (wIf (wTst (wOp (oOwn Z.C_Ratio (q_Ratio_lt K Z) (okCmp K Z.C_Ratio)) (wVar 2) (wVar 3))) (wVar 3) (wVar 2))))
def q_greater (K : PySem.W.Frag) (Z : Ad) : Fn := fnOf 2 2 (w_greater K Z)
theorem ok_greater (T : Txt K mg Z) : FnG P w K mg base (L2.CX P w) 5 Z.f_greater Z.d_greater ["one", "other"] (spF K 2 (q_greater K Z)) :=
  (def_ok T.F_greater (u := w_greater K Z) sc_greater rfl rfl fun cdv A outer s H E hr =>
    (ss_cons (s_par (i := 2) (j := 3) rfl sc_greater.nd (xa_cons (x_call (ok_as_ratio (P := P) (w := w) (base := base) T) (hr.mono (by decide)) T.G_as_ratio T.F_as_ratio.kp T.B_as_ratio .nil hdd0 (takes_of rfl rfl rfl rfl) hf_of (xa_cons (x_var 0) xa_nil)) (xa_cons (x_call (ok_as_ratio (P := P) (w := w) (base := base) T) (hr.mono (by decide)) T.G_as_ratio T.F_as_ratio.kp T.B_as_ratio .nil hdd0 (takes_of rfl rfl rfl rfl) hf_of (xa_cons (x_var 1) xa_nil)) xa_nil)))
    (ss_one (s_ret (x_if (x_tst (o_ownCmp rfl rfl T.O_Ratio_lt (ok_Ratio_lt (P := P) (w := w) (base := base) T) (hr.mono (by decide)) T.B_Ratio_lt hf_of) (x_var 2) (x_var 3) (nomark _)) (x_var 3) (x_var 2))))))
def w_total (K : PySem.W.Frag) (Z : Ad) : Ws := (wSeq (wSet 1 (wMake Z.C_Ratio (q_Ratio_init K Z) [D.int 1] (wCons (wC (.int 0)) wNil)))
    (wSeq (wFor (wItV 0) (wgName 2) (wSet 1 (wOp (oOwn Z.C_Ratio (q_Ratio_add K Z) (okBin Z.C_Ratio)) (wVar 1) (wCall (q_as_ratio K Z) [] (wCons (wVar 2) wNil)))))
    (wRet (wVar 1))))
def q_total (K : PySem.W.Frag) (Z : Ad) : Fn := fnOf 1 2 (w_total K Z)
theorem ok_total (T : Txt K mg Z) : FnG P w K mg base (L2.CX P w) 5 Z.f_total Z.d_total ["numbers"] (spF K 1 (q_total K Z)) :=
  (def_ok T.F_total (u := w_total K Z) sc_total rfl rfl fun cdv A outer s H E hr =>
    (ss_cons (s_set 1 sc_total.nd (x_make T.K_Ratio (ok_Ratio_init (P := P) (w := w) (base := base) T) (hr.mono (by decide)) T.G_Ratio T.B1_Ratio_init T.V1_Ratio_init hdd1 (takes_of rfl rfl rfl rfl) hf_init hn_init (xa_cons x_int xa_nil)))
    (ss_cons (s_for (passes_of rfl) rfl (xi_var 0) (xg_name 2 sc_total.nd) (ss_one (s_set 1 sc_total.nd (x_bin (o_own rfl T.O_Ratio_add (ok_Ratio_add (P := P) (w := w) (base := base) T) (hr.mono (by decide)) T.B_Ratio_add hf_of) (x_var 1) (x_call (ok_as_ratio (P := P) (w := w) (base := base) T) (hr.mono (by decide)) T.G_as_ratio T.F_as_ratio.kp T.B_as_ratio .nil hdd0 (takes_of rfl rfl rfl rfl) hf_of (xa_cons (x_var 2) xa_nil))))))
    (ss_one (s_ret (x_var 1))))))
def w_l_chosen (K : PySem.W.Frag) (Z : Ad) : Ws := (wSeq (wSet 4 (wLst (wCons (wIf (wTru (wCall (q_l_less K Z) [] (wCons (wVar 2) (wCons (wTup (wCons (wVar 3) (wCons (wC (.int 1)) wNil))) wNil)))) (wVar 0) (wMake Z.C_Ratio (q_Ratio_init K Z) [D.int 1] (wCons (wVar 3) wNil))) (wCons (wIf (wTru (wCall (q_l_less K Z) [] (wCons (wVar 2) (wCons (wTup (wCons (wVar 3) (wCons (wC (.int 1)) wNil))) wNil)))) (wMake Z.C_Ratio (q_Ratio_init K Z) [D.int 1] (wCons (wVar 3) wNil)) (wVar 0)) wNil))))
    (wSeq (wIfS (wOrT (wTst (wOp (oOwnNe Z.C_Ratio (q_Ratio_eq K Z) (okCmp K Z.C_Ratio)) (wMake Z.C_Ratio (q_Ratio_init K Z) [D.int 1] (wCons (wVar 3) wNil)) (wVar 3))) (wOrT (wTst (wOp (oOwnNe Z.C_Ratio (q_Ratio_eq K Z) (okCmp K Z.C_Ratio)) (wCall (q_lesser K Z) [] (wCons (wVar 0) (wCons (wVar 3) wNil))) (wOp oIx (wVar 4) (wC (.int 0))))) (wTst (wOp (oOwnNe Z.C_Ratio (q_Ratio_eq K Z) (okCmp K Z.C_Ratio)) (wCall (q_greater K Z) [] (wCons (wVar 3) (wCons (wVar 0) wNil))) (wOp oIx (wVar 4) (wC (.int 1))))))) wOff wNx)
    (wSeq (wIfS (wOrT (wTst (wOp (oOwnNe Z.C_Ratio (q_Ratio_eq K Z) (okCmp K Z.C_Ratio)) (wCall (q_lesser K Z) [] (wCons (wVar 3) (wCons (wVar 0) wNil))) (wOp oIx (wVar 4) (wC (.int 0))))) (wTst (wOp (oOwnNe Z.C_Ratio (q_Ratio_eq K Z) (okCmp K Z.C_Ratio)) (wCall (q_greater K Z) [] (wCons (wVar 0) (wCons (wVar 3) wNil))) (wOp oIx (wVar 4) (wC (.int 1)))))) wOff wNx)
    (wSeq (wSet 5 (wLst (wCons (wCall (q_lesser K Z) [] (wCons (wVar 3) (wCons (wVar 3) wNil))) (wCons (wCall (q_greater K Z) [] (wCons (wVar 3) (wCons (wVar 3) wNil))) (wCons (wCall (q_lesser K Z) [] (wCons (wVar 3) (wCons (wOp (oI CT fun i j => .int (i + j)) (wVar 3) (wC (.int 1))) wNil))) (wCons (wCall (q_greater K Z) [] (wCons (wOp (oI CT fun i j => .int (i + j)) (wVar 3) (wC (.int 1))) (wCons (wVar 3) wNil))) (wCons (wCall (q_total K Z) [] (wCons (wLst wNil) wNil)) (wCons (wCall (q_total K Z) [] (wCons (wLst (wCons (wVar 3) (wCons (wC (.int 3)) wNil))) wNil)) wNil))))))))
    (wSeq (wIfS (wTst (wOp (oNeD) (wFz (wLc (wItV 5) (wgName 2) (wNotT (wTru (wCB (zIsi K) (wCons (wVar 2) (wCons (wC (.adr Z.C_Ratio)) wNil))))) wNo [2])) (wLst wNil))) wOff wNx)
    (wRet (wAnd (wOp (oOwn Z.C_Ratio (q_Ratio_eq K Z) (okCmp K Z.C_Ratio)) (wCallW (q_total K Z) pId 1 (wCons (wLst (wCons (wVar 0) (wCons (wVar 3) (wCons (wVar 1) (wCons (wVar 3) wNil))))) wNil)) (wOp (oOwn Z.C_Ratio (q_Ratio_add K Z) (okBin Z.C_Ratio)) (wOp (oOwn Z.C_Ratio (q_Ratio_add K Z) (okBin Z.C_Ratio)) (wVar 0) (wVar 1)) (wOp (oI CMulW fun i j => .int (i * j)) (wC (.int 2)) (wVar 3)))) (wOp (oOwn Z.C_Ratio (q_Ratio_eq K Z) (okCmp K Z.C_Ratio)) (wCall (q_total K Z) [] (wCons (wLst wNil) wNil)) (wC (.int 0))))))))))
def q_l_chosen (K : PySem.W.Frag) (Z : Ad) : Fn := fnOf 4 2 (w_l_chosen K Z)
theorem ok_l_chosen (T : Txt K mg Z) : FnG P w K mg base (L2.CX P w) 6 Z.f_l_chosen Z.d_l_chosen ["_law_one", "_law_other", "_law_x", "_law_n"] (spF K 4 (q_l_chosen K Z)) :=
  (def_ok T.F_l_chosen (u := w_l_chosen K Z) sc_l_chosen rfl rfl fun cdv A outer s H E hr =>
    (ss_cons (s_set 4 sc_l_chosen.nd (x_lst (xa_cons (x_if (x_tru (x_call (ok_l_less (P := P) (w := w) (base := base) T) (hr.mono (by decide)) T.G_l_less T.F_l_less.kp T.B_l_less .nil hdd0 (takes_of rfl rfl rfl rfl) hf_of (xa_cons (x_var 2) (xa_cons (x_tup (xa_cons (x_var 3) (xa_cons x_int xa_nil))) xa_nil)))) (x_var 0) (x_make T.K_Ratio (ok_Ratio_init (P := P) (w := w) (base := base) T) (hr.mono (by decide)) T.G_Ratio T.B1_Ratio_init T.V1_Ratio_init hdd1 (takes_of rfl rfl rfl rfl) hf_init hn_init (xa_cons (x_var 3) xa_nil))) (xa_cons (x_if (x_tru (x_call (ok_l_less (P := P) (w := w) (base := base) T) (hr.mono (by decide)) T.G_l_less T.F_l_less.kp T.B_l_less .nil hdd0 (takes_of rfl rfl rfl rfl) hf_of (xa_cons (x_var 2) (xa_cons (x_tup (xa_cons (x_var 3) (xa_cons x_int xa_nil))) xa_nil)))) (x_make T.K_Ratio (ok_Ratio_init (P := P) (w := w) (base := base) T) (hr.mono (by decide)) T.G_Ratio T.B1_Ratio_init T.V1_Ratio_init hdd1 (takes_of rfl rfl rfl rfl) hf_init hn_init (xa_cons (x_var 3) xa_nil)) (x_var 0)) xa_nil))))
    (ss_cons (s_if (x_orT (x_tst (o_ownNe T.ne_Ratio T.ob_Ratio T.O_Ratio_eq (ok_Ratio_eq (P := P) (w := w) (base := base) T) (hr.mono (by decide)) T.B_Ratio_eq hf_of) (x_make T.K_Ratio (ok_Ratio_init (P := P) (w := w) (base := base) T) (hr.mono (by decide)) T.G_Ratio T.B1_Ratio_init T.V1_Ratio_init hdd1 (takes_of rfl rfl rfl rfl) hf_init hn_init (xa_cons (x_var 3) xa_nil)) (x_var 3) (nomark _)) (x_orT (x_tst (o_ownNe T.ne_Ratio T.ob_Ratio T.O_Ratio_eq (ok_Ratio_eq (P := P) (w := w) (base := base) T) (hr.mono (by decide)) T.B_Ratio_eq hf_of) (x_call (ok_lesser (P := P) (w := w) (base := base) T) (hr.mono (by decide)) T.G_lesser T.F_lesser.kp T.B_lesser .nil hdd0 (takes_of rfl rfl rfl rfl) hf_of (xa_cons (x_var 0) (xa_cons (x_var 3) xa_nil))) (x_ix (x_var 4) x_int (fun _ _ => rfl)) (nomark _)) (x_or1 (x_tst (o_ownNe T.ne_Ratio T.ob_Ratio T.O_Ratio_eq (ok_Ratio_eq (P := P) (w := w) (base := base) T) (hr.mono (by decide)) T.B_Ratio_eq hf_of) (x_call (ok_greater (P := P) (w := w) (base := base) T) (hr.mono (by decide)) T.G_greater T.F_greater.kp T.B_greater .nil hdd0 (takes_of rfl rfl rfl rfl) hf_of (xa_cons (x_var 3) (xa_cons (x_var 0) xa_nil))) (x_ix (x_var 4) x_int (fun _ _ => rfl)) (nomark _))))).pt ss_off ss_nil)
    (ss_cons (s_if (x_orT (x_tst (o_ownNe T.ne_Ratio T.ob_Ratio T.O_Ratio_eq (ok_Ratio_eq (P := P) (w := w) (base := base) T) (hr.mono (by decide)) T.B_Ratio_eq hf_of) (x_call (ok_lesser (P := P) (w := w) (base := base) T) (hr.mono (by decide)) T.G_lesser T.F_lesser.kp T.B_lesser .nil hdd0 (takes_of rfl rfl rfl rfl) hf_of (xa_cons (x_var 3) (xa_cons (x_var 0) xa_nil))) (x_ix (x_var 4) x_int (fun _ _ => rfl)) (nomark _)) (x_or1 (x_tst (o_ownNe T.ne_Ratio T.ob_Ratio T.O_Ratio_eq (ok_Ratio_eq (P := P) (w := w) (base := base) T) (hr.mono (by decide)) T.B_Ratio_eq hf_of) (x_call (ok_greater (P := P) (w := w) (base := base) T) (hr.mono (by decide)) T.G_greater T.F_greater.kp T.B_greater .nil hdd0 (takes_of rfl rfl rfl rfl) hf_of (xa_cons (x_var 0) (xa_cons (x_var 3) xa_nil))) (x_ix (x_var 4) x_int (fun _ _ => rfl)) (nomark _)))).pt ss_off ss_nil)
    (ss_cons (s_set 5 sc_l_chosen.nd (x_lst (xa_cons (x_call (ok_lesser (P := P) (w := w) (base := base) T) (hr.mono (by decide)) T.G_lesser T.F_lesser.kp T.B_lesser .nil hdd0 (takes_of rfl rfl rfl rfl) hf_of (xa_cons (x_var 3) (xa_cons (x_var 3) xa_nil))) (xa_cons (x_call (ok_greater (P := P) (w := w) (base := base) T) (hr.mono (by decide)) T.G_greater T.F_greater.kp T.B_greater .nil hdd0 (takes_of rfl rfl rfl rfl) hf_of (xa_cons (x_var 3) (xa_cons (x_var 3) xa_nil))) (xa_cons (x_call (ok_lesser (P := P) (w := w) (base := base) T) (hr.mono (by decide)) T.G_lesser T.F_lesser.kp T.B_lesser .nil hdd0 (takes_of rfl rfl rfl rfl) hf_of (xa_cons (x_var 3) (xa_cons (x_bin o_add (x_var 3) x_int) xa_nil))) (xa_cons (x_call (ok_greater (P := P) (w := w) (base := base) T) (hr.mono (by decide)) T.G_greater T.F_greater.kp T.B_greater .nil hdd0 (takes_of rfl rfl rfl rfl) hf_of (xa_cons (x_bin o_add (x_var 3) x_int) (xa_cons (x_var 3) xa_nil))) (xa_cons (x_call (ok_total (P := P) (w := w) (base := base) T) (hr.mono (by decide)) T.G_total T.F_total.kp T.B_total .nil hdd0 (takes_of rfl rfl rfl rfl) hf_of (xa_cons (x_lst xa_nil) xa_nil)) (xa_cons (x_call (ok_total (P := P) (w := w) (base := base) T) (hr.mono (by decide)) T.G_total T.F_total.kp T.B_total .nil hdd0 (takes_of rfl rfl rfl rfl) hf_of (xa_cons (x_lst (xa_cons (x_var 3) (xa_cons x_int xa_nil))) xa_nil)) xa_nil))))))))
    (ss_cons (s_if (x_tst (o_neU hr.r.units) (x_fz (xl_lc (own := [("_law_x", 2)]) rfl sc_l_chosen.nd (xi_var 5) (blk_of (N := ["_law_one", "_law_other", "_law_x", "_law_n", "_law_due", "_law_made"]) (sc := defScope s_l_chosen) rfl rfl ⟨rfl, by decide +kernel, by decide +kernel, by decide +kernel, by decide +kernel⟩) (by decide) (fun s H C cl fp => (xg_name 2 sc_l_chosen.nd)) (fun s H C cl fp => (x_pt1 (x_notT (x_tru (x_callB b_isi T.N_isinstance rfl (xa_cons (x_var 2) (xa_cons (x_gl T.G_Ratio) xa_nil))))))) (fun s H C cl fp => x_off))) (x_lst xa_nil) (nomark _)) ss_off ss_nil)
    (ss_one (s_ret (x_and (x_cmp (o_ownCmp rfl rfl T.O_Ratio_eq (ok_Ratio_eq (P := P) (w := w) (base := base) T) (hr.mono (by decide)) T.B_Ratio_eq hf_of) (x_callW (ks := ["numbers"]) (ok_total (P := P) (w := w) (base := base) T) (hr.mono (by decide)) T.G_total T.F_total.kp (kb_fun (m := 1) T.F_total pId_ok (fun _ _ _ _ _ _ us ws h1 h2 => match us, ws, h1, h2 with | [], [_], _, _ => rfl)) pId_ok hf_of (xk_cons (x_lst (xa_cons (x_var 0) (xa_cons (x_var 3) (xa_cons (x_var 1) (xa_cons (x_var 3) xa_nil))))) xk_nil)) (x_bin (o_own rfl T.O_Ratio_add (ok_Ratio_add (P := P) (w := w) (base := base) T) (hr.mono (by decide)) T.B_Ratio_add hf_of) (x_bin (o_own rfl T.O_Ratio_add (ok_Ratio_add (P := P) (w := w) (base := base) T) (hr.mono (by decide)) T.B_Ratio_add hf_of) (x_var 0) (x_var 1)) (x_bin o_mul x_int (x_var 3))) (nomark _)) (x_one (x_cmp (o_ownCmp rfl rfl T.O_Ratio_eq (ok_Ratio_eq (P := P) (w := w) (base := base) T) (hr.mono (by decide)) T.B_Ratio_eq hf_of) (x_call (ok_total (P := P) (w := w) (base := base) T) (hr.mono (by decide)) T.G_total T.F_total.kp T.B_total .nil hdd0 (takes_of rfl rfl rfl rfl) hf_of (xa_cons (x_lst xa_nil) xa_nil)) x_int (nomark _))))))))))))
def w_l_refused (K : PySem.W.Frag) (Z : Ad) : Ws := (wSeq (wTryAs K (.ref Z.C_BadNumber) 1 (wExpr (wCall (q_as_ratio K Z) [] (wCons (wVar 0) wNil))) (fun a cls d => (wRet (wOp (oEqD) (wCB zRepr (wCons (wXf a cls d Z.C_BadNumber 1 "given") wNil)) (wCB zRepr (wCons (wVar 0) wNil))))))
    wOff)
def q_l_refused (K : PySem.W.Frag) (Z : Ad) : Fn := fnOf 1 1 (w_l_refused K Z)
theorem ok_l_refused (T : Txt K mg Z) : FnG P w K mg base (L2.CX P w) 4 Z.f_l_refused Z.d_l_refused ["_law_strange"] (spF K 1 (q_l_refused K Z)) :=
  (def_ok T.F_l_refused (u := w_l_refused K Z) sc_l_refused rfl rfl fun cdv A outer s H E hr =>
    (ss_cons (s_tryAs 1 rfl rfl sc_l_refused.nd rfl rfl ⟨rfl, by decide, Or.inl T.G_BadNumber⟩ (takes_of rfl rfl rfl rfl) (fun W pn xe tk hp => (ss_one (s_expr (x_call (ok_as_ratio (P := P) (w := w) (base := base) T) (hr.mono (by decide)) T.G_as_ratio T.F_as_ratio.kp T.B_as_ratio .nil hdd0 (tk) hf_of (xa_cons (x_var 0) xa_nil))))) (fun a oe cls d pn hz hf => (ss_one (s_ret (x_cmp (o_eqU hr.r.units) (x_callB (b_repr (by have h := un_of hr; exact h) hr.g) T.N_repr rfl (xa_cons (x_xf 1 T.XF_BadNumber T.XN_BadNumber_given hz hf) xa_nil)) (x_callB (b_repr (by have h := un_of hr; exact h) hr.g) T.N_repr rfl (xa_cons (x_var 0) xa_nil)) (nomark _))))))
    ss_off))
def w_l_zero (K : PySem.W.Frag) (Z : Ad) : Ws := (wSeq (wSet 2 (wC (.int 0)))
    (wSeq (wTry K (.ref Z.C_ByZero) (wExpr (wMeth Z.C_Ratio "over" (q_Ratio_over K Z) [] (wVar 0) (wCons (wVar 1) wNil))) (wSet 2 (wOp (oI CT fun i j => .int (i + j)) (wVar 2) (wC (.int 1)))))
    (wSeq (wTry K (.ref Z.C_ByZero) (wExpr (wMake Z.C_Ratio (q_Ratio_init K Z) [] (wCons (wProp Z.C_Ratio (q_Ratio_top K Z) (wVar 0)) (wCons (wC (.int 0)) wNil)))) (wSet 2 (wOp (oI CT fun i j => .int (i + j)) (wVar 2) (wC (.int 1)))))
    (wRet (wOp (oEqD) (wVar 2) (wC (.int 2)))))))
def q_l_zero (K : PySem.W.Frag) (Z : Ad) : Fn := fnOf 2 1 (w_l_zero K Z)
theorem ok_l_zero (T : Txt K mg Z) : FnG P w K mg base (L2.CX P w) 5 Z.f_l_zero Z.d_l_zero ["_law_amount", "_law_nought"] (spF K 2 (q_l_zero K Z)) :=
  (def_ok T.F_l_zero (u := w_l_zero K Z) sc_l_zero rfl rfl fun cdv A outer s H E hr =>
    (ss_cons (s_set 2 sc_l_zero.nd x_int)
    (ss_cons (s_try rfl rfl ⟨rfl, by decide, Or.inl T.G_ByZero⟩ (takes_of rfl rfl rfl rfl) (fun W pn xe tk hp => (ss_one (s_expr (x_meth (x_var 0) T.cl_Ratio T.M_Ratio_over (ok_Ratio_over (P := P) (w := w) (base := base) T) (hr.mono (by decide)) T.B_Ratio_over .nil hdd0 (tk) hf_of (xa_cons (x_var 1) xa_nil))))) (fun a oe cls d pn hz hf => (ss_one (s_set 2 sc_l_zero.nd (x_bin o_add (x_var 2) x_int)))))
    (ss_cons (s_try rfl rfl ⟨rfl, by decide, Or.inl T.G_ByZero⟩ (takes_of rfl rfl rfl rfl) (fun W pn xe tk hp => (ss_one (s_expr (x_make T.K_Ratio (ok_Ratio_init (P := P) (w := w) (base := base) T) (hr.mono (by decide)) T.G_Ratio T.B_Ratio_init .nil hdd0 (tk) hf_init hn_init (xa_cons (x_prop (x_var 0) T.cl_Ratio T.P_Ratio_top (ok_Ratio_top (P := P) (w := w) (base := base) T) (hr.mono (by decide)) T.B_Ratio_top hf_of) (xa_cons x_int xa_nil)))))) (fun a oe cls d pn hz hf => (ss_one (s_set 2 sc_l_zero.nd (x_bin o_add (x_var 2) x_int)))))
    (ss_one (s_ret (x_cmp (o_eqU hr.r.units) (x_var 2) x_int (nomark _))))))))
def w_l_law (K : PySem.W.Frag) (Z : Ad) : Ws := (wSeq (wFor (wRng1 (wCons (wCB zMax (wCons (wC (.int 1)) (wCons (wCB zMin (wCons (wC (.int 2)) (wCons (wCB zLen (wCons (wVar 0) wNil)) wNil))) wNil))) wNil)) (wgName 1) (wSeq (wSetL 2 (wCallL (q_l_box K Z) [] (wCons (wVar 0) (wCons (wVar 1) wNil))))
    (wSeq (wSet 3 (wCallB 2 (q_l_pick K Z) [] wNil))
    (wSeq (wSet 4 (wIf (wTst (wOp (oEqD) (wCallB 2 (q_l_take K Z) [] (wCons (wC (.int 5)) wNil)) (wC (.int 0)))) (wLst (wCons (wOp (oI CMulW fun i j => .int (i * j)) (wOp oIx (wVar 3) (wC (.int 0))) (wC (.int 3))) (wCons (wOp (oI CMulW fun i j => .int (i * j)) (wOp oIx (wVar 3) (wC (.int 1))) (wC (.int 3))) wNil))) (wCallB 2 (q_l_pick K Z) [] wNil)))
    (wSeq (wSet 5 (wCall (q_l_frac K Z) [] (wCons (wOp oIx (wVar 3) (wC (.int 0))) (wCons (wOp oIx (wVar 3) (wC (.int 1))) wNil))))
    (wSeq (wSet 6 (wCall (q_l_frac K Z) [] (wCons (wOp oIx (wVar 4) (wC (.int 0))) (wCons (wOp oIx (wVar 4) (wC (.int 1))) wNil))))
    (wSeq (wSet 7 (wMake Z.C_Ratio (q_Ratio_init K Z) [] (wCons (wOp oIx (wVar 3) (wC (.int 0))) (wCons (wOp oIx (wVar 3) (wC (.int 1))) wNil))))
    (wSeq (wSet 8 (wMakeW Z.C_Ratio (q_Ratio_init K Z) pSwap 2 (wCons (wOp oIx (wVar 4) (wC (.int 1))) (wCons (wOp oIx (wVar 4) (wC (.int 0))) wNil))))
    (wSeq (wIfS (wOrT (wNotT (wTru (wCall (q_l_is K Z) [] (wCons (wVar 7) (wCons (wVar 5) wNil))))) (wOrT (wNotT (wTru (wCall (q_l_is K Z) [] (wCons (wVar 8) (wCons (wVar 6) wNil))))) (wNotT (wTru (wCall (q_l_is K Z) [] (wCons (wUn (oOwn1 Z.C_Ratio (q_Ratio_neg K Z)) (wVar 7)) (wCons (wCall (q_l_frac K Z) [] (wCons (wOp (oI CT fun i j => .int (i - j)) (wC (.int 0)) (wOp oIx (wVar 5) (wC (.int 0)))) (wCons (wOp oIx (wVar 5) (wC (.int 1))) wNil))) wNil))))))) wOff wNx)
    (wSeq (wSet 9 (wLst (wCons (wCall (q_l_is K Z) [] (wCons (wOp (oOwn Z.C_Ratio (q_Ratio_add K Z) (okBin Z.C_Ratio)) (wVar 7) (wVar 8)) (wCons (wCall (q_l_plus K Z) [] (wCons (wVar 5) (wCons (wVar 6) wNil))) wNil))) (wCons (wCall (q_l_is K Z) [] (wCons (wOp (oOwn Z.C_Ratio (q_Ratio_sub K Z) (okBin Z.C_Ratio)) (wVar 7) (wVar 8)) (wCons (wCall (q_l_minus K Z) [] (wCons (wVar 5) (wCons (wVar 6) wNil))) wNil))) wNil))))
    (wSeq (wIfS (wOrT (wTst (wOp (oNeD) (wVar 9) (wLst (wCons (wC (.bl true)) (wCons (wC (.bl true)) wNil))))) (wOrT (wNotT (wTru (wCall (q_l_is K Z) [] (wCons (wOp (oOwn Z.C_Ratio (q_Ratio_mul K Z) (okBin Z.C_Ratio)) (wVar 7) (wVar 8)) (wCons (wCall (q_l_times K Z) [] (wCons (wVar 5) (wCons (wVar 6) wNil))) wNil))))) (wNotT (wTru (wCall (q_l_compared K Z) [] (wCons (wVar 7) (wCons (wVar 8) (wCons (wVar 5) (wCons (wVar 6) wNil))))))))) wOff wNx)
    (wSeq (wIfS (wAndT (wTst (wOp (oNeD) (wOp oIx (wVar 6) (wC (.int 0))) (wC (.int 0)))) (wNotT (wTru (wCall (q_l_is K Z) [] (wCons (wMeth Z.C_Ratio "over" (q_Ratio_over K Z) [] (wVar 7) (wCons (wVar 8) wNil)) (wCons (wCall (q_l_times K Z) [] (wCons (wVar 5) (wCons (wCall (q_l_frac K Z) [] (wCons (wOp oIx (wVar 6) (wC (.int 1))) (wCons (wOp oIx (wVar 6) (wC (.int 0))) wNil))) wNil))) wNil)))))) wOff wNx)
    (wSeq (wSet 10 (wIf (wTst (wOp (oEqD) (wCallB 2 (q_l_take K Z) [] (wCons (wC (.int 4)) wNil)) (wC (.int 0)))) (wOp oIx (wVar 3) (wC (.int 0))) (wOp (oI CT fun i j => .int (i - j)) (wCallB 2 (q_l_take K Z) [] (wCons (wC (.int 2001)) wNil)) (wC (.int 1000)))))
    (wSeq (wSet 9 (wLst (wCons (wCall (q_l_is K Z) [] (wCons (wOp (oOwn Z.C_Ratio (q_Ratio_add K Z) (okBin Z.C_Ratio)) (wVar 7) (wVar 10)) (wCons (wCall (q_l_plus K Z) [] (wCons (wVar 5) (wCons (wTup (wCons (wVar 10) (wCons (wC (.int 1)) wNil))) wNil))) wNil))) (wCons (wCall (q_l_is K Z) [] (wCons (wOp (oOwn Z.C_Ratio (q_Ratio_sub K Z) (okBin Z.C_Ratio)) (wVar 7) (wVar 10)) (wCons (wCall (q_l_minus K Z) [] (wCons (wVar 5) (wCons (wTup (wCons (wVar 10) (wCons (wC (.int 1)) wNil))) wNil))) wNil))) wNil))))
    (wSeq (wIfS (wOrT (wTst (wOp (oNeD) (wVar 9) (wLst (wCons (wC (.bl true)) (wCons (wC (.bl true)) wNil))))) (wOrT (wNotT (wTru (wCall (q_l_is K Z) [] (wCons (wOp (oOwn Z.C_Ratio (q_Ratio_mul K Z) (okBin Z.C_Ratio)) (wVar 7) (wVar 10)) (wCons (wCall (q_l_times K Z) [] (wCons (wVar 5) (wCons (wTup (wCons (wVar 10) (wCons (wC (.int 1)) wNil))) wNil))) wNil))))) (wNotT (wTru (wCall (q_l_compared K Z) [] (wCons (wVar 7) (wCons (wVar 10) (wCons (wVar 5) (wCons (wTup (wCons (wVar 10) (wCons (wC (.int 1)) wNil))) wNil))))))))) wOff wNx)
    (wSeq (wIfS (wAndT (wTst (wOp (oNeD) (wVar 10) (wC (.int 0)))) (wNotT (wTru (wCall (q_l_is K Z) [] (wCons (wMethW Z.C_Ratio "over" (q_Ratio_over K Z) pId 1 (wVar 7) (wCons (wVar 10) wNil)) (wCons (wCall (q_l_times K Z) [] (wCons (wVar 5) (wCons (wCall (q_l_frac K Z) [] (wCons (wC (.int 1)) (wCons (wVar 10) wNil))) wNil))) wNil)))))) wOff wNx)
    (wSeq (wIfS (wOrT (wNotT (wTru (wCall (q_l_is K Z) [] (wCons (wCall (q_as_ratio K Z) [] (wCons (wVar 7) wNil)) (wCons (wVar 5) wNil))))) (wOrT (wNotT (wTru (wCall (q_l_is K Z) [] (wCons (wCallW (q_as_ratio K Z) pId 1 (wCons (wVar 10) wNil)) (wCons (wTup (wCons (wVar 10) (wCons (wC (.int 1)) wNil))) wNil))))) (wNotT (wTru (wCall (q_l_chosen K Z) [] (wCons (wVar 7) (wCons (wVar 8) (wCons (wVar 5) (wCons (wVar 10) wNil))))))))) wOff wNx)
    (wSeq (wSet 11 (wOp oIx (wLst (wCons (wC (.bl true)) (wCons (wC (.bl false)) (wCons (wC .non) (wCons (wC (.str "1")) (wCons (wLst (wCons (wC (.int 1)) wNil)) (wCons (wTup (wCons (wC (.int 2)) (wCons (wC (.int 1)) wNil))) (wCons (wC (.dk [] [])) wNil)))))))) (wCallB 2 (q_l_take K Z) [] (wCons (wC (.int 7)) wNil))))
    (wIfS (wOrT (wTst (wOp (oOwn Z.C_Ratio (q_Ratio_eq K Z) (okCmp K Z.C_Ratio)) (wMake Z.C_Ratio (q_Ratio_init K Z) [D.int 1] (wCons (wC (.int 1)) wNil)) (wVar 11))) (wOrT (wTst (wOp (oOwn Z.C_Ratio (q_Ratio_eq K Z) (okCmp K Z.C_Ratio)) (wMake Z.C_Ratio (q_Ratio_init K Z) [D.int 1] (wCons (wC (.int 0)) wNil)) (wVar 11))) (wOrT (wNotT (wTru (wCall (q_l_refused K Z) [] (wCons (wVar 11) wNil)))) (wNotT (wTru (wCall (q_l_zero K Z) [] (wCons (wVar 7) (wCons (wOp oIx (wLst (wCons (wC (.int 0)) (wCons (wMake Z.C_Ratio (q_Ratio_init K Z) [D.int 1] (wCons (wC (.int 0)) wNil)) wNil))) (wOp (oI (fun _ j => j ≠ 0) fun i j => .int (i.fmod j)) (wVar 1) (wC (.int 2)))) wNil)))))))) wOff wNx)))))))))))))))))))
    (wRet (wAnd (wOp (oEqD) (wProp Z.C_Ratio (q_Ratio_bottom K Z) (wMake Z.C_Ratio (q_Ratio_init K Z) [D.int 1] (wCons (wC (.int 7)) wNil))) (wC (.int 1))) (wOp (oEqD) (wProp Z.C_Ratio (q_Ratio_bottom K Z) (wMake Z.C_Ratio (q_Ratio_init K Z) [] (wCons (wC (.int 0)) (wCons (wUn (fun d P => ∃ i, d = .int i ∧ P (.int (-i))) (wC (.int 5))) wNil)))) (wC (.int 1))))))
def q_l_law (K : PySem.W.Frag) (Z : Ad) : Fn := fnOf 1 11 (w_l_law K Z)
theorem ok_l_law (T : Txt K mg Z) : FnG P w K mg base (L2.CX P w) 7 Z.f_l_law Z.d_l_law ["_law_script"] (spF K 1 (q_l_law K Z)) :=
  (def_ok T.F_l_law (u := w_l_law K Z) sc_l_law rfl rfl fun cdv A outer s H E hr =>
    (ss_cons (s_for (passes_of rfl) rfl (xi_rng1 (xa_cons (x_callB (b_max2 rfl) T.N_max rfl (xa_cons x_int (xa_cons (x_callB (b_min2 rfl) T.N_min rfl (xa_cons x_int (xa_cons (x_callB b_len T.N_len rfl (xa_cons (x_var 0) xa_nil)) xa_nil))) xa_nil))) xa_nil) T.N_range) (xg_name 1 sc_l_law.nd) (ss_cons (s_setL 2 sc_l_law.nd (xl_call (ok_l_box (P := P) (w := w) (base := base) T) (hr.mono (by decide)) T.G_l_box T.F_l_box.kp T.B_l_box .nil hdd0 (takes_of rfl rfl rfl rfl) hf_of (xa_cons (x_var 0) (xa_cons (x_var 1) xa_nil))))
    (ss_cons (s_set 3 sc_l_law.nd (x_callB' 2 (ok_l_pick (P := P) (w := w) (base := base) T) (hr.mono (by decide)) T.G_l_pick T.F_l_pick.kp T.B_l_pick .nil hdd0 (takes_of rfl rfl rfl rfl) hf_of xa_nil))
    (ss_cons (s_set 4 sc_l_law.nd (x_if (x_tst (o_eqU hr.r.units) (x_callB' 2 (ok_l_take (P := P) (w := w) (base := base) T) (hr.mono (by decide)) T.G_l_take T.F_l_take.kp T.B_l_take .nil hdd0 (takes_of rfl rfl rfl rfl) hf_of (xa_cons x_int xa_nil)) x_int (nomark _)) (x_lst (xa_cons (x_bin o_mul (x_ix (x_var 3) x_int (fun _ _ => rfl)) x_int) (xa_cons (x_bin o_mul (x_ix (x_var 3) x_int (fun _ _ => rfl)) x_int) xa_nil))) (x_callB' 2 (ok_l_pick (P := P) (w := w) (base := base) T) (hr.mono (by decide)) T.G_l_pick T.F_l_pick.kp T.B_l_pick .nil hdd0 (takes_of rfl rfl rfl rfl) hf_of xa_nil)))
    (ss_cons (s_set 5 sc_l_law.nd (x_call (ok_l_frac (P := P) (w := w) (base := base) T) (hr.mono (by decide)) T.G_l_frac T.F_l_frac.kp T.B_l_frac .nil hdd0 (takes_of rfl rfl rfl rfl) hf_of (xa_cons (x_ix (x_var 3) x_int (fun _ _ => rfl)) (xa_cons (x_ix (x_var 3) x_int (fun _ _ => rfl)) xa_nil))))
    (ss_cons (s_set 6 sc_l_law.nd (x_call (ok_l_frac (P := P) (w := w) (base := base) T) (hr.mono (by decide)) T.G_l_frac T.F_l_frac.kp T.B_l_frac .nil hdd0 (takes_of rfl rfl rfl rfl) hf_of (xa_cons (x_ix (x_var 4) x_int (fun _ _ => rfl)) (xa_cons (x_ix (x_var 4) x_int (fun _ _ => rfl)) xa_nil))))
    (ss_cons (s_set 7 sc_l_law.nd (x_make T.K_Ratio (ok_Ratio_init (P := P) (w := w) (base := base) T) (hr.mono (by decide)) T.G_Ratio T.B_Ratio_init .nil hdd0 (takes_of rfl rfl rfl rfl) hf_init hn_init (xa_cons (x_ix (x_var 3) x_int (fun _ _ => rfl)) (xa_cons (x_ix (x_var 3) x_int (fun _ _ => rfl)) xa_nil))))
    (ss_cons (s_set 8 sc_l_law.nd (x_makeW (ks := ["bottom", "top"]) T.K_Ratio (ok_Ratio_init (P := P) (w := w) (base := base) T) (hr.mono (by decide)) T.G_Ratio (kb_funD (m := 2) T.F_Ratio_init (by decide) pSwap_ok (fun _ _ _ _ _ _ _ us its ws h1 h2 h3 => match us, its, ws, h1, h2, h3 with | [_], [_], [_, _], _, _, _ => ⟨_, rfl, rfl⟩)) pSwap_ok hf_init hn_init (xk_cons (x_ix (x_var 4) x_int (fun _ _ => rfl)) (xk_cons (x_ix (x_var 4) x_int (fun _ _ => rfl)) xk_nil))))
    (ss_cons (s_if (x_orT (x_notT (x_tru (x_call (ok_l_is (P := P) (w := w) (base := base) T) (hr.mono (by decide)) T.G_l_is T.F_l_is.kp T.B_l_is .nil hdd0 (takes_of rfl rfl rfl rfl) hf_of (xa_cons (x_var 7) (xa_cons (x_var 5) xa_nil))))) (x_orT (x_notT (x_tru (x_call (ok_l_is (P := P) (w := w) (base := base) T) (hr.mono (by decide)) T.G_l_is T.F_l_is.kp T.B_l_is .nil hdd0 (takes_of rfl rfl rfl rfl) hf_of (xa_cons (x_var 8) (xa_cons (x_var 6) xa_nil))))) (x_or1 (x_notT (x_tru (x_call (ok_l_is (P := P) (w := w) (base := base) T) (hr.mono (by decide)) T.G_l_is T.F_l_is.kp T.B_l_is .nil hdd0 (takes_of rfl rfl rfl rfl) hf_of (xa_cons (x_un (o_ownNeg T.O_Ratio_neg (ok_Ratio_neg (P := P) (w := w) (base := base) T) (hr.mono (by decide)) T.B_Ratio_neg) (x_var 7)) (xa_cons (x_call (ok_l_frac (P := P) (w := w) (base := base) T) (hr.mono (by decide)) T.G_l_frac T.F_l_frac.kp T.B_l_frac .nil hdd0 (takes_of rfl rfl rfl rfl) hf_of (xa_cons (x_bin o_sub x_int (x_ix (x_var 5) x_int (fun _ _ => rfl))) (xa_cons (x_ix (x_var 5) x_int (fun _ _ => rfl)) xa_nil))) xa_nil)))))))).pt ss_off ss_nil)
    (ss_cons (s_set 9 sc_l_law.nd (x_lst (xa_cons (x_call (ok_l_is (P := P) (w := w) (base := base) T) (hr.mono (by decide)) T.G_l_is T.F_l_is.kp T.B_l_is .nil hdd0 (takes_of rfl rfl rfl rfl) hf_of (xa_cons (x_bin (o_own rfl T.O_Ratio_add (ok_Ratio_add (P := P) (w := w) (base := base) T) (hr.mono (by decide)) T.B_Ratio_add hf_of) (x_var 7) (x_var 8)) (xa_cons (x_call (ok_l_plus (P := P) (w := w) (base := base) T) (hr.mono (by decide)) T.G_l_plus T.F_l_plus.kp T.B_l_plus .nil hdd0 (takes_of rfl rfl rfl rfl) hf_of (xa_cons (x_var 5) (xa_cons (x_var 6) xa_nil))) xa_nil))) (xa_cons (x_call (ok_l_is (P := P) (w := w) (base := base) T) (hr.mono (by decide)) T.G_l_is T.F_l_is.kp T.B_l_is .nil hdd0 (takes_of rfl rfl rfl rfl) hf_of (xa_cons (x_bin (o_own rfl T.O_Ratio_sub (ok_Ratio_sub (P := P) (w := w) (base := base) T) (hr.mono (by decide)) T.B_Ratio_sub hf_of) (x_var 7) (x_var 8)) (xa_cons (x_call (ok_l_minus (P := P) (w := w) (base := base) T) (hr.mono (by decide)) T.G_l_minus T.F_l_minus.kp T.B_l_minus .nil hdd0 (takes_of rfl rfl rfl rfl) hf_of (xa_cons (x_var 5) (xa_cons (x_var 6) xa_nil))) xa_nil))) xa_nil))))
    (ss_cons (s_if (x_orT (x_tst (o_neU hr.r.units) (x_var 9) (x_lst (xa_cons x_bl (xa_cons x_bl xa_nil))) (nomark _)) (x_orT (x_notT (x_tru (x_call (ok_l_is (P := P) (w := w) (base := base) T) (hr.mono (by decide)) T.G_l_is T.F_l_is.kp T.B_l_is .nil hdd0 (takes_of rfl rfl rfl rfl) hf_of (xa_cons (x_bin (o_own rfl T.O_Ratio_mul (ok_Ratio_mul (P := P) (w := w) (base := base) T) (hr.mono (by decide)) T.B_Ratio_mul hf_of) (x_var 7) (x_var 8)) (xa_cons (x_call (ok_l_times (P := P) (w := w) (base := base) T) (hr.mono (by decide)) T.G_l_times T.F_l_times.kp T.B_l_times .nil hdd0 (takes_of rfl rfl rfl rfl) hf_of (xa_cons (x_var 5) (xa_cons (x_var 6) xa_nil))) xa_nil))))) (x_or1 (x_notT (x_tru (x_call (ok_l_compared (P := P) (w := w) (base := base) T) (hr.mono (by decide)) T.G_l_compared T.F_l_compared.kp T.B_l_compared .nil hdd0 (takes_of rfl rfl rfl rfl) hf_of (xa_cons (x_var 7) (xa_cons (x_var 8) (xa_cons (x_var 5) (xa_cons (x_var 6) xa_nil)))))))))).pt ss_off ss_nil)
    (ss_cons (s_if (x_andT (x_tst (o_neU hr.r.units) (x_ix (x_var 6) x_int (fun _ _ => rfl)) x_int (nomark _)) (x_and1 (x_notT (x_tru (x_call (ok_l_is (P := P) (w := w) (base := base) T) (hr.mono (by decide)) T.G_l_is T.F_l_is.kp T.B_l_is .nil hdd0 (takes_of rfl rfl rfl rfl) hf_of (xa_cons (x_meth (x_var 7) T.cl_Ratio T.M_Ratio_over (ok_Ratio_over (P := P) (w := w) (base := base) T) (hr.mono (by decide)) T.B_Ratio_over .nil hdd0 (takes_of rfl rfl rfl rfl) hf_of (xa_cons (x_var 8) xa_nil)) (xa_cons (x_call (ok_l_times (P := P) (w := w) (base := base) T) (hr.mono (by decide)) T.G_l_times T.F_l_times.kp T.B_l_times .nil hdd0 (takes_of rfl rfl rfl rfl) hf_of (xa_cons (x_var 5) (xa_cons (x_call (ok_l_frac (P := P) (w := w) (base := base) T) (hr.mono (by decide)) T.G_l_frac T.F_l_frac.kp T.B_l_frac .nil hdd0 (takes_of rfl rfl rfl rfl) hf_of (xa_cons (x_ix (x_var 6) x_int (fun _ _ => rfl)) (xa_cons (x_ix (x_var 6) x_int (fun _ _ => rfl)) xa_nil))) xa_nil))) xa_nil))))))).pt ss_off ss_nil)
    (ss_cons (s_set 10 sc_l_law.nd (x_if (x_tst (o_eqU hr.r.units) (x_callB' 2 (ok_l_take (P := P) (w := w) (base := base) T) (hr.mono (by decide)) T.G_l_take T.F_l_take.kp T.B_l_take .nil hdd0 (takes_of rfl rfl rfl rfl) hf_of (xa_cons x_int xa_nil)) x_int (nomark _)) (x_ix (x_var 3) x_int (fun _ _ => rfl)) (x_bin o_sub (x_callB' 2 (ok_l_take (P := P) (w := w) (base := base) T) (hr.mono (by decide)) T.G_l_take T.F_l_take.kp T.B_l_take .nil hdd0 (takes_of rfl rfl rfl rfl) hf_of (xa_cons x_int xa_nil)) x_int)))
    (ss_cons (s_set 9 sc_l_law.nd (x_lst (xa_cons (x_call (ok_l_is (P := P) (w := w) (base := base) T) (hr.mono (by decide)) T.G_l_is T.F_l_is.kp T.B_l_is .nil hdd0 (takes_of rfl rfl rfl rfl) hf_of (xa_cons (x_bin (o_own rfl T.O_Ratio_add (ok_Ratio_add (P := P) (w := w) (base := base) T) (hr.mono (by decide)) T.B_Ratio_add hf_of) (x_var 7) (x_var 10)) (xa_cons (x_call (ok_l_plus (P := P) (w := w) (base := base) T) (hr.mono (by decide)) T.G_l_plus T.F_l_plus.kp T.B_l_plus .nil hdd0 (takes_of rfl rfl rfl rfl) hf_of (xa_cons (x_var 5) (xa_cons (x_tup (xa_cons (x_var 10) (xa_cons x_int xa_nil))) xa_nil))) xa_nil))) (xa_cons (x_call (ok_l_is (P := P) (w := w) (base := base) T) (hr.mono (by decide)) T.G_l_is T.F_l_is.kp T.B_l_is .nil hdd0 (takes_of rfl rfl rfl rfl) hf_of (xa_cons (x_bin (o_own rfl T.O_Ratio_sub (ok_Ratio_sub (P := P) (w := w) (base := base) T) (hr.mono (by decide)) T.B_Ratio_sub hf_of) (x_var 7) (x_var 10)) (xa_cons (x_call (ok_l_minus (P := P) (w := w) (base := base) T) (hr.mono (by decide)) T.G_l_minus T.F_l_minus.kp T.B_l_minus .nil hdd0 (takes_of rfl rfl rfl rfl) hf_of (xa_cons (x_var 5) (xa_cons (x_tup (xa_cons (x_var 10) (xa_cons x_int xa_nil))) xa_nil))) xa_nil))) xa_nil))))
    (ss_cons (s_if (x_orT (x_tst (o_neU hr.r.units) (x_var 9) (x_lst (xa_cons x_bl (xa_cons x_bl xa_nil))) (nomark _)) (x_orT (x_notT (x_tru (x_call (ok_l_is (P := P) (w := w) (base := base) T) (hr.mono (by decide)) T.G_l_is T.F_l_is.kp T.B_l_is .nil hdd0 (takes_of rfl rfl rfl rfl) hf_of (xa_cons (x_bin (o_own rfl T.O_Ratio_mul (ok_Ratio_mul (P := P) (w := w) (base := base) T) (hr.mono (by decide)) T.B_Ratio_mul hf_of) (x_var 7) (x_var 10)) (xa_cons (x_call (ok_l_times (P := P) (w := w) (base := base) T) (hr.mono (by decide)) T.G_l_times T.F_l_times.kp T.B_l_times .nil hdd0 (takes_of rfl rfl rfl rfl) hf_of (xa_cons (x_var 5) (xa_cons (x_tup (xa_cons (x_var 10) (xa_cons x_int xa_nil))) xa_nil))) xa_nil))))) (x_or1 (x_notT (x_tru (x_call (ok_l_compared (P := P) (w := w) (base := base) T) (hr.mono (by decide)) T.G_l_compared T.F_l_compared.kp T.B_l_compared .nil hdd0 (takes_of rfl rfl rfl rfl) hf_of (xa_cons (x_var 7) (xa_cons (x_var 10) (xa_cons (x_var 5) (xa_cons (x_tup (xa_cons (x_var 10) (xa_cons x_int xa_nil))) xa_nil)))))))))).pt ss_off ss_nil)
    (ss_cons (s_if (x_andT (x_tst (o_neU hr.r.units) (x_var 10) x_int (nomark _)) (x_and1 (x_notT (x_tru (x_call (ok_l_is (P := P) (w := w) (base := base) T) (hr.mono (by decide)) T.G_l_is T.F_l_is.kp T.B_l_is .nil hdd0 (takes_of rfl rfl rfl rfl) hf_of (xa_cons (x_methW (ks := ["number"]) (x_var 7) T.cl_Ratio T.M_Ratio_over (ok_Ratio_over (P := P) (w := w) (base := base) T) (hr.mono (by decide)) (kb_fun (m := 1) T.F_Ratio_over pId_ok (fun _ _ _ _ _ _ us ws h1 h2 => match us, ws, h1, h2 with | [_], [_], _, _ => rfl)) pId_ok hf_of (xk_cons (x_var 10) xk_nil)) (xa_cons (x_call (ok_l_times (P := P) (w := w) (base := base) T) (hr.mono (by decide)) T.G_l_times T.F_l_times.kp T.B_l_times .nil hdd0 (takes_of rfl rfl rfl rfl) hf_of (xa_cons (x_var 5) (xa_cons (x_call (ok_l_frac (P := P) (w := w) (base := base) T) (hr.mono (by decide)) T.G_l_frac T.F_l_frac.kp T.B_l_frac .nil hdd0 (takes_of rfl rfl rfl rfl) hf_of (xa_cons x_int (xa_cons (x_var 10) xa_nil))) xa_nil))) xa_nil))))))).pt ss_off ss_nil)
    (ss_cons (s_if (x_orT (x_notT (x_tru (x_call (ok_l_is (P := P) (w := w) (base := base) T) (hr.mono (by decide)) T.G_l_is T.F_l_is.kp T.B_l_is .nil hdd0 (takes_of rfl rfl rfl rfl) hf_of (xa_cons (x_call (ok_as_ratio (P := P) (w := w) (base := base) T) (hr.mono (by decide)) T.G_as_ratio T.F_as_ratio.kp T.B_as_ratio .nil hdd0 (takes_of rfl rfl rfl rfl) hf_of (xa_cons (x_var 7) xa_nil)) (xa_cons (x_var 5) xa_nil))))) (x_orT (x_notT (x_tru (x_call (ok_l_is (P := P) (w := w) (base := base) T) (hr.mono (by decide)) T.G_l_is T.F_l_is.kp T.B_l_is .nil hdd0 (takes_of rfl rfl rfl rfl) hf_of (xa_cons (x_callW (ks := ["given"]) (ok_as_ratio (P := P) (w := w) (base := base) T) (hr.mono (by decide)) T.G_as_ratio T.F_as_ratio.kp (kb_fun (m := 1) T.F_as_ratio pId_ok (fun _ _ _ _ _ _ us ws h1 h2 => match us, ws, h1, h2 with | [], [_], _, _ => rfl)) pId_ok hf_of (xk_cons (x_var 10) xk_nil)) (xa_cons (x_tup (xa_cons (x_var 10) (xa_cons x_int xa_nil))) xa_nil))))) (x_or1 (x_notT (x_tru (x_call (ok_l_chosen (P := P) (w := w) (base := base) T) (hr.mono (by decide)) T.G_l_chosen T.F_l_chosen.kp T.B_l_chosen .nil hdd0 (takes_of rfl rfl rfl rfl) hf_of (xa_cons (x_var 7) (xa_cons (x_var 8) (xa_cons (x_var 5) (xa_cons (x_var 10) xa_nil)))))))))).pt ss_off ss_nil)
    (ss_cons (s_set 11 sc_l_law.nd (x_ix (x_lst (xa_cons x_bl (xa_cons x_bl (xa_cons x_non (xa_cons x_str (xa_cons (x_lst (xa_cons x_int xa_nil)) (xa_cons (x_tup (xa_cons x_int (xa_cons x_int xa_nil))) (xa_cons x_dict0 xa_nil)))))))) (x_callB' 2 (ok_l_take (P := P) (w := w) (base := base) T) (hr.mono (by decide)) T.G_l_take T.F_l_take.kp T.B_l_take .nil hdd0 (takes_of rfl rfl rfl rfl) hf_of (xa_cons x_int xa_nil)) (fun _ _ => rfl)))
    (ss_one (s_if (x_orT (x_tst (o_ownCmp rfl rfl T.O_Ratio_eq (ok_Ratio_eq (P := P) (w := w) (base := base) T) (hr.mono (by decide)) T.B_Ratio_eq hf_of) (x_make T.K_Ratio (ok_Ratio_init (P := P) (w := w) (base := base) T) (hr.mono (by decide)) T.G_Ratio T.B1_Ratio_init T.V1_Ratio_init hdd1 (takes_of rfl rfl rfl rfl) hf_init hn_init (xa_cons x_int xa_nil)) (x_var 11) (nomark _)) (x_orT (x_tst (o_ownCmp rfl rfl T.O_Ratio_eq (ok_Ratio_eq (P := P) (w := w) (base := base) T) (hr.mono (by decide)) T.B_Ratio_eq hf_of) (x_make T.K_Ratio (ok_Ratio_init (P := P) (w := w) (base := base) T) (hr.mono (by decide)) T.G_Ratio T.B1_Ratio_init T.V1_Ratio_init hdd1 (takes_of rfl rfl rfl rfl) hf_init hn_init (xa_cons x_int xa_nil)) (x_var 11) (nomark _)) (x_orT (x_notT (x_tru (x_call (ok_l_refused (P := P) (w := w) (base := base) T) (hr.mono (by decide)) T.G_l_refused T.F_l_refused.kp T.B_l_refused .nil hdd0 (takes_of rfl rfl rfl rfl) hf_of (xa_cons (x_var 11) xa_nil)))) (x_or1 (x_notT (x_tru (x_call (ok_l_zero (P := P) (w := w) (base := base) T) (hr.mono (by decide)) T.G_l_zero T.F_l_zero.kp T.B_l_zero .nil hdd0 (takes_of rfl rfl rfl rfl) hf_of (xa_cons (x_var 7) (xa_cons (x_ix (x_lst (xa_cons x_int (xa_cons (x_make T.K_Ratio (ok_Ratio_init (P := P) (w := w) (base := base) T) (hr.mono (by decide)) T.G_Ratio T.B1_Ratio_init T.V1_Ratio_init hdd1 (takes_of rfl rfl rfl rfl) hf_init hn_init (xa_cons x_int xa_nil)) xa_nil))) (x_bin o_mod (x_var 1) x_int) (fun _ _ => rfl)) xa_nil))))))))).pt ss_off ss_nil))))))))))))))))))))
    (ss_one (s_ret (x_and (x_cmp (o_eqU hr.r.units) (x_prop (x_make T.K_Ratio (ok_Ratio_init (P := P) (w := w) (base := base) T) (hr.mono (by decide)) T.G_Ratio T.B1_Ratio_init T.V1_Ratio_init hdd1 (takes_of rfl rfl rfl rfl) hf_init hn_init (xa_cons x_int xa_nil)) T.cl_Ratio T.P_Ratio_bottom (ok_Ratio_bottom (P := P) (w := w) (base := base) T) (hr.mono (by decide)) T.B_Ratio_bottom hf_of) x_int (nomark _)) (x_one (x_cmp (o_eqU hr.r.units) (x_prop (x_make T.K_Ratio (ok_Ratio_init (P := P) (w := w) (base := base) T) (hr.mono (by decide)) T.G_Ratio T.B_Ratio_init .nil hdd0 (takes_of rfl rfl rfl rfl) hf_init hn_init (xa_cons x_int (xa_cons (x_un o_neg x_int) xa_nil))) T.cl_Ratio T.P_Ratio_bottom (ok_Ratio_bottom (P := P) (w := w) (base := base) T) (hr.mono (by decide)) T.B_Ratio_bottom hf_of) x_int (nomark _))))))))
end
end K02

set_option Elab.async false
set_option linter.all false
set_option maxRecDepth 100000
set_option maxHeartbeats 0
namespace K02
open PySem PySem.Spec PyProof.Rows L2 L3
def dp_l_law : DefP := ⟨fun K => He.ga K "law", "law", "law", s_l_law, []⟩
def dp_l_box : DefP := ⟨fun K => He.ga K "_law_box", "_law_box", "_law_box", s_l_box, []⟩
def dp_l_cell : DefP := ⟨fun K => He.ga K "_law_cell", "_law_cell", "_law_cell", s_l_cell, []⟩
def dp_l_pick : DefP := ⟨fun K => He.ga K "_law_pick", "_law_pick", "_law_pick", s_l_pick, []⟩
def dp_l_take : DefP := ⟨fun K => He.ga K "_law_take", "_law_take", "_law_take", s_l_take, []⟩
def dp_l_frac : DefP := ⟨fun K => He.ga K "_law_frac", "_law_frac", "_law_frac", s_l_frac, []⟩
def dp_Ratio_init : DefP := ⟨fun K => He.ma K (He.ga K "Ratio") "__init__", "__init__", "Ratio.__init__", s_Ratio_init, [1]⟩
def dp_l_is : DefP := ⟨fun K => He.ga K "_law_is", "_law_is", "_law_is", s_l_is, []⟩
def dp_Ratio_top : DefP := ⟨fun K => gP K (He.ma K (He.ga K "Ratio") "top"), "top", "Ratio.top", s_Ratio_top, []⟩
def dp_Ratio_bottom : DefP := ⟨fun K => gP K (He.ma K (He.ga K "Ratio") "bottom"), "bottom", "Ratio.bottom", s_Ratio_bottom, []⟩
def dp_Ratio_neg : DefP := ⟨fun K => He.ma K (He.ga K "Ratio") "__neg__", "__neg__", "Ratio.__neg__", s_Ratio_neg, []⟩
def dp_Ratio_add : DefP := ⟨fun K => He.ma K (He.ga K "Ratio") "__add__", "__add__", "Ratio.__add__", s_Ratio_add, []⟩
def dp_is_number : DefP := ⟨fun K => He.ga K "is_number", "is_number", "is_number", s_is_number, []⟩
def dp_is_integer : DefP := ⟨fun K => He.ga K "is_integer", "is_integer", "is_integer", s_is_integer, []⟩
def dp_as_ratio : DefP := ⟨fun K => He.ga K "as_ratio", "as_ratio", "as_ratio", s_as_ratio, []⟩
def dp_BadNumber_init : DefP := ⟨fun K => He.ma K (He.ga K "BadNumber") "__init__", "__init__", "BadNumber.__init__", s_BadNumber_init, []⟩
def dp_l_plus : DefP := ⟨fun K => He.ga K "_law_plus", "_law_plus", "_law_plus", s_l_plus, []⟩
def dp_Ratio_sub : DefP := ⟨fun K => He.ma K (He.ga K "Ratio") "__sub__", "__sub__", "Ratio.__sub__", s_Ratio_sub, []⟩
def dp_crossed : DefP := ⟨fun K => He.ga K "crossed", "crossed", "crossed", s_crossed, []⟩
def dp_l_minus : DefP := ⟨fun K => He.ga K "_law_minus", "_law_minus", "_law_minus", s_l_minus, []⟩
def dp_Ratio_mul : DefP := ⟨fun K => He.ma K (He.ga K "Ratio") "__mul__", "__mul__", "Ratio.__mul__", s_Ratio_mul, []⟩
def dp_l_times : DefP := ⟨fun K => He.ga K "_law_times", "_law_times", "_law_times", s_l_times, []⟩
def dp_l_compared : DefP := ⟨fun K => He.ga K "_law_compared", "_law_compared", "_law_compared", s_l_compared, []⟩
def dp_Ratio_eq : DefP := ⟨fun K => He.ma K (He.ga K "Ratio") "__eq__", "__eq__", "Ratio.__eq__", s_Ratio_eq, []⟩
def dp_Ratio_lt : DefP := ⟨fun K => He.ma K (He.ga K "Ratio") "__lt__", "__lt__", "Ratio.__lt__", s_Ratio_lt, []⟩
def dp_l_less : DefP := ⟨fun K => He.ga K "_law_less", "_law_less", "_law_less", s_l_less, []⟩
def dp_Ratio_le : DefP := ⟨fun K => He.ma K (He.ga K "Ratio") "__le__", "__le__", "Ratio.__le__", s_Ratio_le, []⟩
def dp_Ratio_over : DefP := ⟨fun K => He.ma K (He.ga K "Ratio") "over", "over", "Ratio.over", s_Ratio_over, []⟩
def dp_l_chosen : DefP := ⟨fun K => He.ga K "_law_chosen", "_law_chosen", "_law_chosen", s_l_chosen, []⟩
def dp_lesser : DefP := ⟨fun K => He.ga K "lesser", "lesser", "lesser", s_lesser, []⟩
def dp_greater : DefP := ⟨fun K => He.ga K "greater", "greater", "greater", s_greater, []⟩
def dp_total : DefP := ⟨fun K => He.ga K "total", "total", "total", s_total, []⟩
def dp_l_refused : DefP := ⟨fun K => He.ga K "_law_refused", "_law_refused", "_law_refused", s_l_refused, []⟩
def dp_l_zero : DefP := ⟨fun K => He.ga K "_law_zero", "_law_zero", "_law_zero", s_l_zero, []⟩
def ck0 : List Ck := [kFa (.free "len"), kFa (.free "min"), kFa (.free "max"), kFa (.free "range"), kFa (.glo "_law_cell"), kFa (.free "int"), kFa (.free "abs"), kFa (.glo "_law_box"), kFa (.glo "_law_take"), kFa (.glo "_law_pick"), kFa (.glo "_law_frac"), kFa (.cls "Ratio"), kFa (.exc "ByZero"), kFa (.glo "ByZero"), kBui "gcd" "math.gcd", kFa (.noat "Ratio" "_top"), kFa (.noat "Ratio" "_bottom"), kFa (.glo "Ratio"), kFa (.mkr "Ratio"), kFa (.free "isinstance"), kProp "Ratio" "top", kProp "Ratio" "bottom", kFa (.glo "_law_is"), kCmp "Ratio" "__neg__", kFa (.free "bool"), kFa (.glo "is_integer"), kFa (.glo "is_number"), kEr1 "BadNumber" "given", kFa (.glo "BadNumber"), kFa (.glo "as_ratio"), kOp "Ratio" "__add__" "add", kFa (.glo "_law_plus"), kFa (.glo "crossed"), kOp "Ratio" "__sub__" "sub", kFa (.glo "_law_minus"), kOp "Ratio" "__mul__" "mul", kFa (.glo "_law_times"), kCmp "Ratio" "__eq__", kCmp "Ratio" "__lt__", kFa (.glo "_law_less")]
def ck1 : List Ck := [kCmp "Ratio" "__le__", kFa (.glo "_law_compared"), kFa (.meth "Ratio" "over"), kNe "Ratio", kOb "Ratio", kFa (.glo "lesser"), kFa (.glo "greater"), kFa (.glo "total"), kFa (.glo "_law_chosen"), kXf "BadNumber", kFa (.noat "BadNumber" "given"), kFa (.free "repr"), kFa (.glo "_law_refused"), kFa (.glo "_law_zero"), kFa (.glo "law"), kKit (.t "int") (.c "Ratio") false, kKit (.t "bool") (.c "Ratio") false, kKit (.t "NoneType") (.c "Ratio") false, kKit (.t "str") (.c "Ratio") false, kKit (.t "list") (.c "Ratio") false, kKit (.t "tuple") (.c "Ratio") false, kKit (.t "dict") (.c "Ratio") false, kKit (.c "Ratio") (.c "Ratio") true, kKit (.t "int") (.t "bool") false, kKit (.t "bool") (.t "bool") true, kKit (.t "NoneType") (.t "bool") false, kKit (.t "str") (.t "bool") false, kKit (.t "list") (.t "bool") false, kKit (.t "tuple") (.t "bool") false, kKit (.t "dict") (.t "bool") false, kKit (.c "Ratio") (.t "bool") false, kKit (.t "int") (.t "int") true, kKit (.t "bool") (.t "int") true, kKit (.t "NoneType") (.t "int") false, kKit (.t "str") (.t "int") false, kKit (.t "list") (.t "int") false, kKit (.t "tuple") (.t "int") false, kKit (.t "dict") (.t "int") false, kKit (.c "Ratio") (.t "int") false, kIsi "Ratio"]
def ck2 : List Ck := [kNf "Ratio" (.t "int"), kNf "Ratio" (.t "bool"), kNf "Ratio" (.t "NoneType"), kNf "Ratio" (.t "str"), kNf "Ratio" (.t "list"), kNf "Ratio" (.t "tuple"), kNf "Ratio" (.t "dict"), kNf "Ratio" (.c "Ratio"), kFa (.exm "ByZero" "ByZero" true), kFa (.exm "ByZero" "BadNumber" false), kFa (.exm "BadNumber" "ByZero" false), kFa (.exm "BadNumber" "BadNumber" true)]
def cks : List Ck := ck0 ++ ck1 ++ ck2
def fns : List DefP := [dp_l_law, dp_l_box, dp_l_cell, dp_l_pick, dp_l_take, dp_l_frac, dp_Ratio_init, dp_l_is, dp_Ratio_top, dp_Ratio_bottom, dp_Ratio_neg, dp_Ratio_add, dp_is_number, dp_is_integer, dp_as_ratio, dp_BadNumber_init, dp_l_plus, dp_Ratio_sub, dp_crossed, dp_l_minus, dp_Ratio_mul, dp_l_times, dp_l_compared, dp_Ratio_eq, dp_Ratio_lt, dp_l_less, dp_Ratio_le, dp_Ratio_over, dp_l_chosen, dp_lesser, dp_greater, dp_total, dp_l_refused, dp_l_zero]
theorem facts {K : PySem.W.Frag} {h : Heap} {mg : Str → Option Value} (X : K.In h) (G : h.Ns mainGlobals mg) (c : SaysP cks fns K) : ∃ Z : Ad, Txt K mg Z ∧ Z.f_l_law = He.ga K "law" := by
  obtain ⟨d_l_law, F_l_law⟩ := c.def_ 0 (d := dp_l_law) rfl
  have F_l_law : FunD K "law" "law" (defArgs s_l_law) (defBody s_l_law) (defScope s_l_law) [] [] (He.ga K "law") d_l_law := F_l_law
  obtain ⟨d_l_box, F_l_box⟩ := c.def_ 1 (d := dp_l_box) rfl
  have F_l_box : FunD K "_law_box" "_law_box" (defArgs s_l_box) (defBody s_l_box) (defScope s_l_box) [] [] (He.ga K "_law_box") d_l_box := F_l_box
  obtain ⟨d_l_cell, F_l_cell⟩ := c.def_ 2 (d := dp_l_cell) rfl
  have F_l_cell : FunD K "_law_cell" "_law_cell" (defArgs s_l_cell) (defBody s_l_cell) (defScope s_l_cell) [] [] (He.ga K "_law_cell") d_l_cell := F_l_cell
  obtain ⟨d_l_pick, F_l_pick⟩ := c.def_ 3 (d := dp_l_pick) rfl
  have F_l_pick : FunD K "_law_pick" "_law_pick" (defArgs s_l_pick) (defBody s_l_pick) (defScope s_l_pick) [] [] (He.ga K "_law_pick") d_l_pick := F_l_pick
  obtain ⟨d_l_take, F_l_take⟩ := c.def_ 4 (d := dp_l_take) rfl
  have F_l_take : FunD K "_law_take" "_law_take" (defArgs s_l_take) (defBody s_l_take) (defScope s_l_take) [] [] (He.ga K "_law_take") d_l_take := F_l_take
  obtain ⟨d_l_frac, F_l_frac⟩ := c.def_ 5 (d := dp_l_frac) rfl
  have F_l_frac : FunD K "_law_frac" "_law_frac" (defArgs s_l_frac) (defBody s_l_frac) (defScope s_l_frac) [] [] (He.ga K "_law_frac") d_l_frac := F_l_frac
  obtain ⟨d_Ratio_init, F_Ratio_init⟩ := c.def_ 6 (d := dp_Ratio_init) rfl
  have F_Ratio_init : FunD K "__init__" "Ratio.__init__" (defArgs s_Ratio_init) (defBody s_Ratio_init) (defScope s_Ratio_init) [V.int 1] [] (He.ma K (He.ga K "Ratio") "__init__") d_Ratio_init := F_Ratio_init
  obtain ⟨d_l_is, F_l_is⟩ := c.def_ 7 (d := dp_l_is) rfl
  have F_l_is : FunD K "_law_is" "_law_is" (defArgs s_l_is) (defBody s_l_is) (defScope s_l_is) [] [] (He.ga K "_law_is") d_l_is := F_l_is
  obtain ⟨d_Ratio_top, F_Ratio_top⟩ := c.def_ 8 (d := dp_Ratio_top) rfl
  have F_Ratio_top : FunD K "top" "Ratio.top" (defArgs s_Ratio_top) (defBody s_Ratio_top) (defScope s_Ratio_top) [] [] (gP K (He.ma K (He.ga K "Ratio") "top")) d_Ratio_top := F_Ratio_top
  obtain ⟨d_Ratio_bottom, F_Ratio_bottom⟩ := c.def_ 9 (d := dp_Ratio_bottom) rfl
  have F_Ratio_bottom : FunD K "bottom" "Ratio.bottom" (defArgs s_Ratio_bottom) (defBody s_Ratio_bottom) (defScope s_Ratio_bottom) [] [] (gP K (He.ma K (He.ga K "Ratio") "bottom")) d_Ratio_bottom := F_Ratio_bottom
  obtain ⟨d_Ratio_neg, F_Ratio_neg⟩ := c.def_ 10 (d := dp_Ratio_neg) rfl
  have F_Ratio_neg : FunD K "__neg__" "Ratio.__neg__" (defArgs s_Ratio_neg) (defBody s_Ratio_neg) (defScope s_Ratio_neg) [] [] (He.ma K (He.ga K "Ratio") "__neg__") d_Ratio_neg := F_Ratio_neg
  obtain ⟨d_Ratio_add, F_Ratio_add⟩ := c.def_ 11 (d := dp_Ratio_add) rfl
  have F_Ratio_add : FunD K "__add__" "Ratio.__add__" (defArgs s_Ratio_add) (defBody s_Ratio_add) (defScope s_Ratio_add) [] [] (He.ma K (He.ga K "Ratio") "__add__") d_Ratio_add := F_Ratio_add
  obtain ⟨d_is_number, F_is_number⟩ := c.def_ 12 (d := dp_is_number) rfl
  have F_is_number : FunD K "is_number" "is_number" (defArgs s_is_number) (defBody s_is_number) (defScope s_is_number) [] [] (He.ga K "is_number") d_is_number := F_is_number
  obtain ⟨d_is_integer, F_is_integer⟩ := c.def_ 13 (d := dp_is_integer) rfl
  have F_is_integer : FunD K "is_integer" "is_integer" (defArgs s_is_integer) (defBody s_is_integer) (defScope s_is_integer) [] [] (He.ga K "is_integer") d_is_integer := F_is_integer
  obtain ⟨d_as_ratio, F_as_ratio⟩ := c.def_ 14 (d := dp_as_ratio) rfl
  have F_as_ratio : FunD K "as_ratio" "as_ratio" (defArgs s_as_ratio) (defBody s_as_ratio) (defScope s_as_ratio) [] [] (He.ga K "as_ratio") d_as_ratio := F_as_ratio
  obtain ⟨d_BadNumber_init, F_BadNumber_init⟩ := c.def_ 15 (d := dp_BadNumber_init) rfl
  have F_BadNumber_init : FunD K "__init__" "BadNumber.__init__" (defArgs s_BadNumber_init) (defBody s_BadNumber_init) (defScope s_BadNumber_init) [] [] (He.ma K (He.ga K "BadNumber") "__init__") d_BadNumber_init := F_BadNumber_init
  obtain ⟨d_l_plus, F_l_plus⟩ := c.def_ 16 (d := dp_l_plus) rfl
  have F_l_plus : FunD K "_law_plus" "_law_plus" (defArgs s_l_plus) (defBody s_l_plus) (defScope s_l_plus) [] [] (He.ga K "_law_plus") d_l_plus := F_l_plus
  obtain ⟨d_Ratio_sub, F_Ratio_sub⟩ := c.def_ 17 (d := dp_Ratio_sub) rfl
  have F_Ratio_sub : FunD K "__sub__" "Ratio.__sub__" (defArgs s_Ratio_sub) (defBody s_Ratio_sub) (defScope s_Ratio_sub) [] [] (He.ma K (He.ga K "Ratio") "__sub__") d_Ratio_sub := F_Ratio_sub
  obtain ⟨d_crossed, F_crossed⟩ := c.def_ 18 (d := dp_crossed) rfl
  have F_crossed : FunD K "crossed" "crossed" (defArgs s_crossed) (defBody s_crossed) (defScope s_crossed) [] [] (He.ga K "crossed") d_crossed := F_crossed
  obtain ⟨d_l_minus, F_l_minus⟩ := c.def_ 19 (d := dp_l_minus) rfl
  have F_l_minus : FunD K "_law_minus" "_law_minus" (defArgs s_l_minus) (defBody s_l_minus) (defScope s_l_minus) [] [] (He.ga K "_law_minus") d_l_minus := F_l_minus
  obtain ⟨d_Ratio_mul, F_Ratio_mul⟩ := c.def_ 20 (d := dp_Ratio_mul) rfl
  have F_Ratio_mul : FunD K "__mul__" "Ratio.__mul__" (defArgs s_Ratio_mul) (defBody s_Ratio_mul) (defScope s_Ratio_mul) [] [] (He.ma K (He.ga K "Ratio") "__mul__") d_Ratio_mul := F_Ratio_mul
  obtain ⟨d_l_times, F_l_times⟩ := c.def_ 21 (d := dp_l_times) rfl
  have F_l_times : FunD K "_law_times" "_law_times" (defArgs s_l_times) (defBody s_l_times) (defScope s_l_times) [] [] (He.ga K "_law_times") d_l_times := F_l_times
  obtain ⟨d_l_compared, F_l_compared⟩ := c.def_ 22 (d := dp_l_compared) rfl
  have F_l_compared : FunD K "_law_compared" "_law_compared" (defArgs s_l_compared) (defBody s_l_compared) (defScope s_l_compared) [] [] (He.ga K "_law_compared") d_l_compared := F_l_compared
  obtain ⟨d_Ratio_eq, F_Ratio_eq⟩ := c.def_ 23 (d := dp_Ratio_eq) rfl
  have F_Ratio_eq : FunD K "__eq__" "Ratio.__eq__" (defArgs s_Ratio_eq) (defBody s_Ratio_eq) (defScope s_Ratio_eq) [] [] (He.ma K (He.ga K "Ratio") "__eq__") d_Ratio_eq := F_Ratio_eq
  obtain ⟨d_Ratio_lt, F_Ratio_lt⟩ := c.def_ 24 (d := dp_Ratio_lt) rfl
  have F_Ratio_lt : FunD K "__lt__" "Ratio.__lt__" (defArgs s_Ratio_lt) (defBody s_Ratio_lt) (defScope s_Ratio_lt) [] [] (He.ma K (He.ga K "Ratio") "__lt__") d_Ratio_lt := F_Ratio_lt
  obtain ⟨d_l_less, F_l_less⟩ := c.def_ 25 (d := dp_l_less) rfl
  have F_l_less : FunD K "_law_less" "_law_less" (defArgs s_l_less) (defBody s_l_less) (defScope s_l_less) [] [] (He.ga K "_law_less") d_l_less := F_l_less
  obtain ⟨d_Ratio_le, F_Ratio_le⟩ := c.def_ 26 (d := dp_Ratio_le) rfl
  have F_Ratio_le : FunD K "__le__" "Ratio.__le__" (defArgs s_Ratio_le) (defBody s_Ratio_le) (defScope s_Ratio_le) [] [] (He.ma K (He.ga K "Ratio") "__le__") d_Ratio_le := F_Ratio_le
  obtain ⟨d_Ratio_over, F_Ratio_over⟩ := c.def_ 27 (d := dp_Ratio_over) rfl
  have F_Ratio_over : FunD K "over" "Ratio.over" (defArgs s_Ratio_over) (defBody s_Ratio_over) (defScope s_Ratio_over) [] [] (He.ma K (He.ga K "Ratio") "over") d_Ratio_over := F_Ratio_over
  obtain ⟨d_l_chosen, F_l_chosen⟩ := c.def_ 28 (d := dp_l_chosen) rfl
  have F_l_chosen : FunD K "_law_chosen" "_law_chosen" (defArgs s_l_chosen) (defBody s_l_chosen) (defScope s_l_chosen) [] [] (He.ga K "_law_chosen") d_l_chosen := F_l_chosen
  obtain ⟨d_lesser, F_lesser⟩ := c.def_ 29 (d := dp_lesser) rfl
  have F_lesser : FunD K "lesser" "lesser" (defArgs s_lesser) (defBody s_lesser) (defScope s_lesser) [] [] (He.ga K "lesser") d_lesser := F_lesser
  obtain ⟨d_greater, F_greater⟩ := c.def_ 30 (d := dp_greater) rfl
  have F_greater : FunD K "greater" "greater" (defArgs s_greater) (defBody s_greater) (defScope s_greater) [] [] (He.ga K "greater") d_greater := F_greater
  obtain ⟨d_total, F_total⟩ := c.def_ 31 (d := dp_total) rfl
  have F_total : FunD K "total" "total" (defArgs s_total) (defBody s_total) (defScope s_total) [] [] (He.ga K "total") d_total := F_total
  obtain ⟨d_l_refused, F_l_refused⟩ := c.def_ 32 (d := dp_l_refused) rfl
  have F_l_refused : FunD K "_law_refused" "_law_refused" (defArgs s_l_refused) (defBody s_l_refused) (defScope s_l_refused) [] [] (He.ga K "_law_refused") d_l_refused := F_l_refused
  obtain ⟨d_l_zero, F_l_zero⟩ := c.def_ 33 (d := dp_l_zero) rfl
  have F_l_zero : FunD K "_law_zero" "_law_zero" (defArgs s_l_zero) (defBody s_l_zero) (defScope s_l_zero) [] [] (He.ga K "_law_zero") d_l_zero := F_l_zero
  obtain ⟨v1_Ratio_init, V1_Ratio_init, B1_Ratio_init⟩ := F_Ratio_init.binds1 (ps := ["self", "top", "bottom"]) 2 0 (by decide) rfl fun T kV doc pm an cdv ct us its h1 h2 => match us, its, h1, h2 with | [_, _], [_], _, _ => ⟨_, rfl, rfl⟩
  refine ⟨{ f_l_law := He.ga K "law", d_l_law := d_l_law, f_l_box := He.ga K "_law_box", d_l_box := d_l_box, f_l_cell := He.ga K "_law_cell", d_l_cell := d_l_cell, f_l_pick := He.ga K "_law_pick", d_l_pick := d_l_pick, f_l_take := He.ga K "_law_take", d_l_take := d_l_take, f_l_frac := He.ga K "_law_frac", d_l_frac := d_l_frac, C_Ratio := He.ga K "Ratio", f_Ratio_init := He.ma K (He.ga K "Ratio") "__init__", d_Ratio_init := d_Ratio_init, C_ByZero := He.ga K "ByZero", f_l_is := He.ga K "_law_is", d_l_is := d_l_is, f_Ratio_top := gP K (He.ma K (He.ga K "Ratio") "top"), d_Ratio_top := d_Ratio_top, p_Ratio_top := He.ma K (He.ga K "Ratio") "top", f_Ratio_bottom := gP K (He.ma K (He.ga K "Ratio") "bottom"), d_Ratio_bottom := d_Ratio_bottom, p_Ratio_bottom := He.ma K (He.ga K "Ratio") "bottom", f_Ratio_neg := He.ma K (He.ga K "Ratio") "__neg__", d_Ratio_neg := d_Ratio_neg, f_Ratio_add := He.ma K (He.ga K "Ratio") "__add__", d_Ratio_add := d_Ratio_add, f_is_number := He.ga K "is_number", d_is_number := d_is_number, f_is_integer := He.ga K "is_integer", d_is_integer := d_is_integer, f_as_ratio := He.ga K "as_ratio", d_as_ratio := d_as_ratio, C_BadNumber := He.ga K "BadNumber", f_BadNumber_init := He.ma K (He.ga K "BadNumber") "__init__", d_BadNumber_init := d_BadNumber_init, v1_Ratio_init := v1_Ratio_init, f_l_plus := He.ga K "_law_plus", d_l_plus := d_l_plus, f_Ratio_sub := He.ma K (He.ga K "Ratio") "__sub__", d_Ratio_sub := d_Ratio_sub, f_crossed := He.ga K "crossed", d_crossed := d_crossed, f_l_minus := He.ga K "_law_minus", d_l_minus := d_l_minus, f_Ratio_mul := He.ma K (He.ga K "Ratio") "__mul__", d_Ratio_mul := d_Ratio_mul, f_l_times := He.ga K "_law_times", d_l_times := d_l_times, f_l_compared := He.ga K "_law_compared", d_l_compared := d_l_compared, f_Ratio_eq := He.ma K (He.ga K "Ratio") "__eq__", d_Ratio_eq := d_Ratio_eq, f_Ratio_lt := He.ma K (He.ga K "Ratio") "__lt__", d_Ratio_lt := d_Ratio_lt, f_l_less := He.ga K "_law_less", d_l_less := d_l_less, f_Ratio_le := He.ma K (He.ga K "Ratio") "__le__", d_Ratio_le := d_Ratio_le, f_Ratio_over := He.ma K (He.ga K "Ratio") "over", d_Ratio_over := d_Ratio_over, f_l_chosen := He.ga K "_law_chosen", d_l_chosen := d_l_chosen, f_lesser := He.ga K "lesser", d_lesser := d_lesser, f_greater := He.ga K "greater", d_greater := d_greater, f_total := He.ga K "total", d_total := d_total, f_l_refused := He.ga K "_law_refused", d_l_refused := d_l_refused, f_l_zero := He.ga K "_law_zero", d_l_zero := d_l_zero }, ?_, rfl⟩
  exact {
    F_l_law := fun_of_D F_l_law,
    B_l_law := F_l_law.bindsN fun _ _ _ _ _ _ us hl => match us, hl with | [_], _ => rfl,
    N_len := He.free_ok X G (c.fact 0 (f := kFa (.free "len"))),
    N_min := He.free_ok X G (c.fact 1 (f := kFa (.free "min"))),
    N_max := He.free_ok X G (c.fact 2 (f := kFa (.free "max"))),
    N_range := He.free_ok X G (c.fact 3 (f := kFa (.free "range"))),
    F_l_box := fun_of_D F_l_box,
    B_l_box := F_l_box.bindsN fun _ _ _ _ _ _ us hl => match us, hl with | [_, _], _ => rfl,
    F_l_cell := fun_of_D F_l_cell,
    B_l_cell := F_l_cell.bindsN fun _ _ _ _ _ _ us hl => match us, hl with | [_, _], _ => rfl,
    G_l_cell := He.glo_ok X G (c.fact 4 (f := kFa (.glo "_law_cell"))),
    N_int := He.free_ok X G (c.fact 5 (f := kFa (.free "int"))),
    N_abs := He.free_ok X G (c.fact 6 (f := kFa (.free "abs"))),
    G_l_box := He.glo_ok X G (c.fact 7 (f := kFa (.glo "_law_box"))),
    F_l_pick := fun_of_D F_l_pick,
    B_l_pick := F_l_pick.bindsN fun _ _ _ _ _ _ us hl => match us, hl with | [_], _ => rfl,
    F_l_take := fun_of_D F_l_take,
    B_l_take := F_l_take.bindsN fun _ _ _ _ _ _ us hl => match us, hl with | [_, _], _ => rfl,
    G_l_take := He.glo_ok X G (c.fact 8 (f := kFa (.glo "_law_take"))),
    G_l_pick := He.glo_ok X G (c.fact 9 (f := kFa (.glo "_law_pick"))),
    F_l_frac := fun_of_D F_l_frac,
    B_l_frac := F_l_frac.bindsN fun _ _ _ _ _ _ us hl => match us, hl with | [_, _], _ => rfl,
    G_l_frac := He.glo_ok X G (c.fact 10 (f := kFa (.glo "_law_frac"))),
    cl_Ratio := He.cls_ok (c.fact 11 (f := kFa (.cls "Ratio"))),
    F_Ratio_init := F_Ratio_init,
    B_Ratio_init := binds_all (F_Ratio_init.binds1 3 1 (by decide) rfl fun T kV doc pm an cdv ct us its h1 h2 => match us, its, h1, h2 with | [_, _, _], [_], _, _ => ⟨_, rfl, rfl⟩),
    E0_ByZero := er0_of X G (c.fact 12 (f := kFa (.exc "ByZero"))) (c.fact 13 (f := kFa (.glo "ByZero"))),
    G_gcd := kBui_ok X G (c.fact 14 (f := kBui "gcd" "math.gcd")),
    NA_Ratio__top := He.noat_ok (c.fact 15 (f := kFa (.noat "Ratio" "_top"))),
    NA_Ratio__bottom := He.noat_ok (c.fact 16 (f := kFa (.noat "Ratio" "_bottom"))),
    G_Ratio := He.glo_ok X G (c.fact 17 (f := kFa (.glo "Ratio"))),
    K_Ratio := He.mkr_ok (c.fact 18 (f := kFa (.mkr "Ratio"))),
    F_l_is := fun_of_D F_l_is,
    B_l_is := F_l_is.bindsN fun _ _ _ _ _ _ us hl => match us, hl with | [_, _], _ => rfl,
    N_isinstance := He.free_ok X G (c.fact 19 (f := kFa (.free "isinstance"))),
    F_Ratio_top := fun_of_D F_Ratio_top,
    B_Ratio_top := F_Ratio_top.bindsN fun _ _ _ _ _ _ us hl => match us, hl with | [_], _ => rfl,
    P_Ratio_top := kProp_ok (c.fact 20 (f := kProp "Ratio" "top")),
    F_Ratio_bottom := fun_of_D F_Ratio_bottom,
    B_Ratio_bottom := F_Ratio_bottom.bindsN fun _ _ _ _ _ _ us hl => match us, hl with | [_], _ => rfl,
    P_Ratio_bottom := kProp_ok (c.fact 21 (f := kProp "Ratio" "bottom")),
    G_l_is := He.glo_ok X G (c.fact 22 (f := kFa (.glo "_law_is"))),
    F_Ratio_neg := fun_of_D F_Ratio_neg,
    B_Ratio_neg := F_Ratio_neg.bindsN fun _ _ _ _ _ _ us hl => match us, hl with | [_], _ => rfl,
    O_Ratio_neg := kCmp_ok (c.fact 23 (f := kCmp "Ratio" "__neg__")),
    F_Ratio_add := fun_of_D F_Ratio_add,
    B_Ratio_add := F_Ratio_add.bindsN fun _ _ _ _ _ _ us hl => match us, hl with | [_, _], _ => rfl,
    F_is_number := fun_of_D F_is_number,
    B_is_number := F_is_number.bindsN fun _ _ _ _ _ _ us hl => match us, hl with | [_], _ => rfl,
    F_is_integer := fun_of_D F_is_integer,
    B_is_integer := F_is_integer.bindsN fun _ _ _ _ _ _ us hl => match us, hl with | [_], _ => rfl,
    N_bool := He.free_ok X G (c.fact 24 (f := kFa (.free "bool"))),
    G_is_integer := He.glo_ok X G (c.fact 25 (f := kFa (.glo "is_integer"))),
    G_is_number := He.glo_ok X G (c.fact 26 (f := kFa (.glo "is_number"))),
    F_as_ratio := fun_of_D F_as_ratio,
    B_as_ratio := F_as_ratio.bindsN fun _ _ _ _ _ _ us hl => match us, hl with | [_], _ => rfl,
    F_BadNumber_init := fun_of_D F_BadNumber_init,
    B_BadNumber_init := F_BadNumber_init.bindsN fun _ _ _ _ _ _ us hl => match us, hl with | [_, _], _ => rfl,
    E1_BadNumber := er1_of X G (c.fact 27 (f := kEr1 "BadNumber" "given")) (c.fact 28 (f := kFa (.glo "BadNumber"))),
    V1_Ratio_init := V1_Ratio_init,
    B1_Ratio_init := B1_Ratio_init,
    G_as_ratio := He.glo_ok X G (c.fact 29 (f := kFa (.glo "as_ratio"))),
    O_Ratio_add := kOp_ok (c.fact 30 (f := kOp "Ratio" "__add__" "add")),
    F_l_plus := fun_of_D F_l_plus,
    B_l_plus := F_l_plus.bindsN fun _ _ _ _ _ _ us hl => match us, hl with | [_, _], _ => rfl,
    G_l_plus := He.glo_ok X G (c.fact 31 (f := kFa (.glo "_law_plus"))),
    F_Ratio_sub := fun_of_D F_Ratio_sub,
    B_Ratio_sub := F_Ratio_sub.bindsN fun _ _ _ _ _ _ us hl => match us, hl with | [_, _], _ => rfl,
    F_crossed := fun_of_D F_crossed,
    B_crossed := F_crossed.bindsN fun _ _ _ _ _ _ us hl => match us, hl with | [_, _], _ => rfl,
    G_crossed := He.glo_ok X G (c.fact 32 (f := kFa (.glo "crossed"))),
    O_Ratio_sub := kOp_ok (c.fact 33 (f := kOp "Ratio" "__sub__" "sub")),
    F_l_minus := fun_of_D F_l_minus,
    B_l_minus := F_l_minus.bindsN fun _ _ _ _ _ _ us hl => match us, hl with | [_, _], _ => rfl,
    G_l_minus := He.glo_ok X G (c.fact 34 (f := kFa (.glo "_law_minus"))),
    F_Ratio_mul := fun_of_D F_Ratio_mul,
    B_Ratio_mul := F_Ratio_mul.bindsN fun _ _ _ _ _ _ us hl => match us, hl with | [_, _], _ => rfl,
    O_Ratio_mul := kOp_ok (c.fact 35 (f := kOp "Ratio" "__mul__" "mul")),
    F_l_times := fun_of_D F_l_times,
    B_l_times := F_l_times.bindsN fun _ _ _ _ _ _ us hl => match us, hl with | [_, _], _ => rfl,
    G_l_times := He.glo_ok X G (c.fact 36 (f := kFa (.glo "_law_times"))),
    F_l_compared := fun_of_D F_l_compared,
    B_l_compared := F_l_compared.bindsN fun _ _ _ _ _ _ us hl => match us, hl with | [_, _, _, _], _ => rfl,
    F_Ratio_eq := fun_of_D F_Ratio_eq,
    B_Ratio_eq := F_Ratio_eq.bindsN fun _ _ _ _ _ _ us hl => match us, hl with | [_, _], _ => rfl,
    O_Ratio_eq := kCmp_ok (c.fact 37 (f := kCmp "Ratio" "__eq__")),
    F_Ratio_lt := fun_of_D F_Ratio_lt,
    B_Ratio_lt := F_Ratio_lt.bindsN fun _ _ _ _ _ _ us hl => match us, hl with | [_, _], _ => rfl,
    O_Ratio_lt := kCmp_ok (c.fact 38 (f := kCmp "Ratio" "__lt__")),
    F_l_less := fun_of_D F_l_less,
    B_l_less := F_l_less.bindsN fun _ _ _ _ _ _ us hl => match us, hl with | [_, _], _ => rfl,
    G_l_less := He.glo_ok X G (c.fact 39 (f := kFa (.glo "_law_less"))),
    F_Ratio_le := fun_of_D F_Ratio_le,
    B_Ratio_le := F_Ratio_le.bindsN fun _ _ _ _ _ _ us hl => match us, hl with | [_, _], _ => rfl,
    O_Ratio_le := kCmp_ok (c.fact 40 (f := kCmp "Ratio" "__le__")),
    G_l_compared := He.glo_ok X G (c.fact 41 (f := kFa (.glo "_law_compared"))),
    F_Ratio_over := fun_of_D F_Ratio_over,
    B_Ratio_over := F_Ratio_over.bindsN fun _ _ _ _ _ _ us hl => match us, hl with | [_, _], _ => rfl,
    M_Ratio_over := He.meth_ok (c.fact 42 (f := kFa (.meth "Ratio" "over"))),
    F_l_chosen := fun_of_D F_l_chosen,
    B_l_chosen := F_l_chosen.bindsN fun _ _ _ _ _ _ us hl => match us, hl with | [_, _, _, _], _ => rfl,
    ne_Ratio := kNe_ok (c.fact 43 (f := kNe "Ratio")),
    ob_Ratio := kOb_ok (c.fact 44 (f := kOb "Ratio")),
    F_lesser := fun_of_D F_lesser,
    B_lesser := F_lesser.bindsN fun _ _ _ _ _ _ us hl => match us, hl with | [_, _], _ => rfl,
    G_lesser := He.glo_ok X G (c.fact 45 (f := kFa (.glo "lesser"))),
    F_greater := fun_of_D F_greater,
    B_greater := F_greater.bindsN fun _ _ _ _ _ _ us hl => match us, hl with | [_, _], _ => rfl,
    G_greater := He.glo_ok X G (c.fact 46 (f := kFa (.glo "greater"))),
    F_total := fun_of_D F_total,
    B_total := F_total.bindsN fun _ _ _ _ _ _ us hl => match us, hl with | [_], _ => rfl,
    G_total := He.glo_ok X G (c.fact 47 (f := kFa (.glo "total"))),
    G_l_chosen := He.glo_ok X G (c.fact 48 (f := kFa (.glo "_law_chosen"))),
    F_l_refused := fun_of_D F_l_refused,
    B_l_refused := F_l_refused.bindsN fun _ _ _ _ _ _ us hl => match us, hl with | [_], _ => rfl,
    G_BadNumber := He.glo_ok X G (c.fact 28 (f := kFa (.glo "BadNumber"))),
    XF_BadNumber := kXf_ok (c.fact 49 (f := kXf "BadNumber")),
    XN_BadNumber_given := He.noat_ok (c.fact 50 (f := kFa (.noat "BadNumber" "given"))),
    N_repr := He.free_ok X G (c.fact 51 (f := kFa (.free "repr"))),
    G_l_refused := He.glo_ok X G (c.fact 52 (f := kFa (.glo "_law_refused"))),
    F_l_zero := fun_of_D F_l_zero,
    B_l_zero := F_l_zero.bindsN fun _ _ _ _ _ _ us hl => match us, hl with | [_, _], _ => rfl,
    G_ByZero := He.glo_ok X G (c.fact 13 (f := kFa (.glo "ByZero"))),
    G_l_zero := He.glo_ok X G (c.fact 53 (f := kFa (.glo "_law_zero"))),
    G_l_law := He.glo_ok X G (c.fact 54 (f := kFa (.glo "law"))),
    kit_int_Ratio := kKit_ok (c.fact 55 (f := kKit (.t "int") (.c "Ratio") false)),
    kit_bool_Ratio := kKit_ok (c.fact 56 (f := kKit (.t "bool") (.c "Ratio") false)),
    kit_NoneType_Ratio := kKit_ok (c.fact 57 (f := kKit (.t "NoneType") (.c "Ratio") false)),
    kit_str_Ratio := kKit_ok (c.fact 58 (f := kKit (.t "str") (.c "Ratio") false)),
    kit_list_Ratio := kKit_ok (c.fact 59 (f := kKit (.t "list") (.c "Ratio") false)),
    kit_tuple_Ratio := kKit_ok (c.fact 60 (f := kKit (.t "tuple") (.c "Ratio") false)),
    kit_dict_Ratio := kKit_ok (c.fact 61 (f := kKit (.t "dict") (.c "Ratio") false)),
    kit_Ratio_Ratio := kKit_ok (c.fact 62 (f := kKit (.c "Ratio") (.c "Ratio") true)),
    kit_int_bool := kKit_ok (c.fact 63 (f := kKit (.t "int") (.t "bool") false)),
    kit_bool_bool := kKit_ok (c.fact 64 (f := kKit (.t "bool") (.t "bool") true)),
    kit_NoneType_bool := kKit_ok (c.fact 65 (f := kKit (.t "NoneType") (.t "bool") false)),
    kit_str_bool := kKit_ok (c.fact 66 (f := kKit (.t "str") (.t "bool") false)),
    kit_list_bool := kKit_ok (c.fact 67 (f := kKit (.t "list") (.t "bool") false)),
    kit_tuple_bool := kKit_ok (c.fact 68 (f := kKit (.t "tuple") (.t "bool") false)),
    kit_dict_bool := kKit_ok (c.fact 69 (f := kKit (.t "dict") (.t "bool") false)),
    kit_Ratio_bool := kKit_ok (c.fact 70 (f := kKit (.c "Ratio") (.t "bool") false)),
    kit_int_int := kKit_ok (c.fact 71 (f := kKit (.t "int") (.t "int") true)),
    kit_bool_int := kKit_ok (c.fact 72 (f := kKit (.t "bool") (.t "int") true)),
    kit_NoneType_int := kKit_ok (c.fact 73 (f := kKit (.t "NoneType") (.t "int") false)),
    kit_str_int := kKit_ok (c.fact 74 (f := kKit (.t "str") (.t "int") false)),
    kit_list_int := kKit_ok (c.fact 75 (f := kKit (.t "list") (.t "int") false)),
    kit_tuple_int := kKit_ok (c.fact 76 (f := kKit (.t "tuple") (.t "int") false)),
    kit_dict_int := kKit_ok (c.fact 77 (f := kKit (.t "dict") (.t "int") false)),
    kit_Ratio_int := kKit_ok (c.fact 78 (f := kKit (.c "Ratio") (.t "int") false)),
    isi_Ratio := kIsi_ok (c.fact 79 (f := kIsi "Ratio")),
    nf_Ratio_int := kNf_ok (c.fact 80 (f := kNf "Ratio" (.t "int"))),
    nf_Ratio_bool := kNf_ok (c.fact 81 (f := kNf "Ratio" (.t "bool"))),
    nf_Ratio_NoneType := kNf_ok (c.fact 82 (f := kNf "Ratio" (.t "NoneType"))),
    nf_Ratio_str := kNf_ok (c.fact 83 (f := kNf "Ratio" (.t "str"))),
    nf_Ratio_list := kNf_ok (c.fact 84 (f := kNf "Ratio" (.t "list"))),
    nf_Ratio_tuple := kNf_ok (c.fact 85 (f := kNf "Ratio" (.t "tuple"))),
    nf_Ratio_dict := kNf_ok (c.fact 86 (f := kNf "Ratio" (.t "dict"))),
    nf_Ratio_Ratio := kNf_ok (c.fact 87 (f := kNf "Ratio" (.c "Ratio"))),
    exm_ByZero_ByZero := He.exm_ok (c.fact 88 (f := kFa (.exm "ByZero" "ByZero" true))),
    exm_ByZero_BadNumber := He.exm_ok (c.fact 89 (f := kFa (.exm "ByZero" "BadNumber" false))),
    exm_BadNumber_ByZero := He.exm_ok (c.fact 90 (f := kFa (.exm "BadNumber" "ByZero" false))),
    exm_BadNumber_BadNumber := He.exm_ok (c.fact 91 (f := kFa (.exm "BadNumber" "BadNumber" true))) }
abbrev R : PySem.W.OpenRow := PySem.W.OpenLaw.row PySem.Challenge.rw_rangepools_k02_ratios
abbrev hk : PySem.W.Hook := hookP 5 cks fns
def lo0 : List PySem.Str := ["PoolError", "ByZero", "BadText", "BadNumber", "Ratio", "is_integer", "is_number", "as_ratio", "crossed", "lesser", "greater", "total", "is_decimal", "decimal", "whole", "_law_cell", "_law_box", "_law_take", "_law_frac", "_law_plus", "_law_times", "_law_minus", "_law_less", "_law_pick", "_law_is", "_law_refused", "_law_zero", "_law_compared", "_law_chosen"]
abbrev lo : List PySem.Str := lo0
def ob (s : PySem.W.SharedT) : AlP := obsPG 5 cks fns (HandSHeadRun.getT s)
theorem ob_eq (s : PySem.W.SharedT) : ob s = hk.obs s.abs := obsPG_eq (HandSHeadRun.getT_eq s)
theorem run (w : World) : HandSHeadRun.RunEqI R (PySem.W.view R.prog [0, 33]) hk ob 6000 lo w := by
  unfold HandSHeadRun.RunEqI
  kernel_rfl
end K02

set_option Elab.async false
set_option linter.all false
set_option maxRecDepth 100000
set_option maxHeartbeats 1000000
namespace K02
open PySem L2 L3
set_option exponentiation.threshold 10
abbrev pr (p : Int × Int) : D := .tup [.int p.1, .int p.2]
abbrev ra (Z : Ad) (p : Int × Int) : D := .obj Z.C_Ratio ["_top", "_bottom"] [.int p.1, .int p.2]
section
variable {K : PySem.W.Frag} {mg : Str → Option Value} {Z : Ad}
theorem frac_true {a b : Int} {R : Rv → List S → Prop} {Y : Er → List S → Prop} (hb : b ≠ 0) (sb : B 9000 b) (q : ∀ fin, R (.d (pr (nm a b))) fin) : q_l_frac K Z [.v (.int a), .v (.int b)] R Y := by
  refine r_fn rfl ?_
  unfold w_l_frac
  (repeat walk_at "l3 step")
  have ha : (if a < 0 then -a else a) = (a.natAbs : Int) := by split <;> omega
  have hb' : (if b < 0 then -b else b) = (b.natAbs : Int) := by split <;> omega
  rw [ha, hb']
  refine ⟨fun m δ => ∃ x y : Nat, δ = [.v (.int a), .v (.int b), .v (.int x), .v (.int y)] ∧ Nat.gcd x y = Nat.gcd a.natAbs b.natAbs ∧ m = y, ⟨_, _, _, rfl, rfl, rfl⟩, ?_⟩
  rintro m _ ⟨x, y, rfl, hg, hm⟩
  (repeat walk_at "l3 step")
  refine r_ite (fun h => ?_) (fun h => ?_)
  · (repeat walk_at "l3 step")
    · refine ⟨x % y, by rw [hm]; exact Nat.mod_lt _ (by omega), y, x % y, ?_, ?_, rfl⟩
      · have e : ((x : Int).fmod y) = ((x % y : Nat) : Int) := by
          rw [Int.fmod_eq_emod_of_nonneg _ (by omega)]; rfl
        rw [e]
      · rw [← hg, Nat.gcd_comm y, ← Nat.gcd_rec, Nat.gcd_comm]
    · show (y : Int) ≠ 0; omega
  · have hy : y = 0 := by omega
    subst hy
    rw [Nat.gcd_zero_right] at hg
    subst hg
    (repeat walk_at "l3 step")
    have fin : ∀ g : Int, g = gd a b → R (.d (.tup [.int (a.fdiv g), .int (b.fdiv g)])) [.v (.int a), .v (.int b), .v (.int g), .v (.int ((0 : Nat) : Int))] := fun g e => by
      subst e; exact q _
    have cc : ∀ x g : Int, g = gd a b → CDivF x g := fun x g e => by
      subst e; exact gd_div x hb sb
    refine r_ite (fun h => ?_) (fun h => ?_)
    · have e : (0 : Int) - ((Nat.gcd a.natAbs b.natAbs : Nat) : Int) = gd a b := by unfold gd; rw [if_pos h]; omega
      (repeat walk_at "l3 step")
      · exact fin _ e
      · exact cc _ _ e
      · exact cc _ _ e
    · have e : ((Nat.gcd a.natAbs b.natAbs : Nat) : Int) = gd a b := by unfold gd; rw [if_neg h]
      (repeat walk_at "l3 step")
      · exact fin _ e
      · exact cc _ _ e
      · exact cc _ _ e

/-- Ratio(a, b), b not 0 -/
theorem init_true {a b : Int} {R : Rv → List S → Prop} {Y : Er → List S → Prop} (hb : b ≠ 0) (sb : B 9000 b) (q : ∀ fin : List S, fin[0]? = some (.oo true Z.C_Ratio ["_top", "_bottom"] [.int (nm a b).1, .int (nm a b).2]) → R (.d .non) fin) :
    q_Ratio_init K Z [.oo true Z.C_Ratio [] [], .v (.int a), .v (.int b)] R Y := by
  refine r_init rfl ?_
  unfold w_Ratio_init
  (repeat walk_at "l3 step")
  refine r_ite (fun h => absurd h hb) (fun _ => ?_)
  (repeat walk_at "l3 step")
  refine r_ite (fun h => ?_) (fun h => ?_)
  · have e : -((Nat.gcd a.natAbs b.natAbs : Nat) : Int) = gd a b := by unfold gd; rw [if_pos h]
    (repeat walk_at "l3 step")
    · rw [e]; exact q _ rfl
    · rw [e]; exact gd_div _ hb sb
    · rw [e]; exact gd_div _ hb sb
  · have e : ((Nat.gcd a.natAbs b.natAbs : Nat) : Int) = gd a b := by unfold gd; rw [if_neg h]
    (repeat walk_at "l3 step")
    · rw [e]; exact q _ rfl
    · rw [e]; exact gd_div _ hb sb
    · rw [e]; exact gd_div _ hb sb
theorem init_zero {a : Int} {R : Rv → List S → Prop} {Y : Er → List S → Prop} (q : ∀ fin, Y (Z.C_ByZero, []) fin) : q_Ratio_init K Z [.oo true Z.C_Ratio [] [], .v (.int a), .v (.int 0)] R Y := by
  refine r_init rfl ?_
  unfold w_Ratio_init
  (repeat walk_at "l3 step")
  exact q _
theorem top_true {p : Int × Int} {R : Rv → List S → Prop} {Y : Er → List S → Prop} (q : ∀ fin, R (.d (.int p.1)) fin) : q_Ratio_top K Z [.v (ra Z p)] R Y := by
  refine r_fn rfl ?_
  unfold w_Ratio_top
  (repeat walk_at "l3 step")
  exact q _
theorem bottom_true {p : Int × Int} {R : Rv → List S → Prop} {Y : Er → List S → Prop} (q : ∀ fin, R (.d (.int p.2)) fin) : q_Ratio_bottom K Z [.v (ra Z p)] R Y := by
  refine r_fn rfl ?_
  unfold w_Ratio_bottom
  (repeat walk_at "l3 step")
  exact q _

/-! ### numbers -/
/-- a number as the program sees it: a Ratio, an integer -/
def Num (Z : Ad) (d : D) (p : Int × Int) : Prop := d = ra Z p ∨ ∃ n, d = .int n ∧ p = (n, 1)
theorem Num.own (p : Int × Int) : Num Z (ra Z p) p := .inl rfl
theorem Num.int (n : Int) : Num Z (.int n) (n, 1) := .inr ⟨n, rfl, rfl⟩
/-- other values: none of them a number -/
def Odd (d : D) : Prop := (∃ b, d = .bl b) ∨ d = .non ∨ (∃ x, d = .str x) ∨ (∃ xs, d = .lst xs) ∨ (∃ xs, d = .tup xs) ∨ ∃ ks xs, d = .dk ks xs
theorem isint_int (T : Txt K mg Z) {n : Int} {R : Rv → List S → Prop} {Y : Er → List S → Prop} (q : ∀ fin, R (.d (.bl true)) fin) : q_is_integer K Z [.v (.int n)] R Y := by
  refine r_fn rfl ?_
  unfold w_is_integer
  (repeat walk_at "l3 step")
  refine r_isi rfl rfl trivial T.kit_int_int ?_
  (repeat walk_at "l3 step")
  refine r_isi rfl rfl trivial T.kit_int_bool ?_
  (repeat walk_at "l3 step")
  exact q _
theorem isint_odd (T : Txt K mg Z) {d : D} (h : Odd d) {R : Rv → List S → Prop} {Y : Er → List S → Prop} (q : ∀ fin, R (.d (.bl false)) fin) : q_is_integer K Z [.v d] R Y := by
  refine r_fn rfl ?_
  unfold w_is_integer
  rcases h with ⟨b, rfl⟩ | rfl | ⟨x, rfl⟩ | ⟨x, rfl⟩ | ⟨x, rfl⟩ | ⟨ks, x, rfl⟩ <;> (repeat walk_at "l3 step")
  · refine r_isi rfl rfl trivial T.kit_bool_int ?_
    (repeat walk_at "l3 step")
    refine r_isi rfl rfl trivial T.kit_bool_bool ?_
    (repeat walk_at "l3 step")
    exact q _
  · refine r_isi rfl rfl trivial T.kit_NoneType_int ?_
    (repeat walk_at "l3 step")
    exact q _
  · refine r_isi rfl rfl trivial T.kit_str_int ?_
    (repeat walk_at "l3 step")
    exact q _
  · refine r_isi rfl rfl trivial T.kit_list_int ?_
    (repeat walk_at "l3 step")
    exact q _
  · refine r_isi rfl rfl trivial T.kit_tuple_int ?_
    (repeat walk_at "l3 step")
    exact q _
  · refine r_isi rfl rfl trivial T.kit_dict_int ?_
    (repeat walk_at "l3 step")
    exact q _
theorem isnum (T : Txt K mg Z) {d : D} {p : Int × Int} (h : Num Z d p) {R : Rv → List S → Prop} {Y : Er → List S → Prop} (q : ∀ fin, R (.d (.bl true)) fin) : q_is_number K Z [.v d] R Y := by
  refine r_fn rfl ?_
  unfold w_is_number
  rcases h with rfl | ⟨n, rfl, rfl⟩ <;> (repeat walk_at "l3 step")
  · refine r_isi rfl rfl T.isi_Ratio T.kit_Ratio_Ratio ?_
    (repeat walk_at "l3 step")
    exact q _
  · refine r_isi rfl rfl trivial T.kit_int_Ratio ?_
    (repeat walk_at "l3 step")
    refine isint_int T fun _ => ?_
    (repeat walk_at "l3 step")
    exact q _
theorem isnum_odd (T : Txt K mg Z) {d : D} (h : Odd d) {R : Rv → List S → Prop} {Y : Er → List S → Prop} (q : ∀ fin, R (.d (.bl false)) fin) : q_is_number K Z [.v d] R Y := by
  refine r_fn rfl ?_
  unfold w_is_number
  have fin : ∀ {R : Rv → List S → Prop} {Y : Er → List S → Prop}, (∀ fin, R (.d (.bl false)) fin) → q_is_integer K Z [.v d] R Y := fun q => isint_odd T h q
  rcases h with ⟨b, rfl⟩ | rfl | ⟨x, rfl⟩ | ⟨x, rfl⟩ | ⟨x, rfl⟩ | ⟨ks, x, rfl⟩ <;> (repeat walk_at "l3 step")
  · refine r_isi rfl rfl trivial T.kit_bool_Ratio ?_
    (repeat walk_at "l3 step")
    exact fin fun _ => by (repeat walk_at "l3 step"); exact q _
  · refine r_isi rfl rfl trivial T.kit_NoneType_Ratio ?_
    (repeat walk_at "l3 step")
    exact fin fun _ => by (repeat walk_at "l3 step"); exact q _
  · refine r_isi rfl rfl trivial T.kit_str_Ratio ?_
    (repeat walk_at "l3 step")
    exact fin fun _ => by (repeat walk_at "l3 step"); exact q _
  · refine r_isi rfl rfl trivial T.kit_list_Ratio ?_
    (repeat walk_at "l3 step")
    exact fin fun _ => by (repeat walk_at "l3 step"); exact q _
  · refine r_isi rfl rfl trivial T.kit_tuple_Ratio ?_
    (repeat walk_at "l3 step")
    exact fin fun _ => by (repeat walk_at "l3 step"); exact q _
  · refine r_isi rfl rfl trivial T.kit_dict_Ratio ?_
    (repeat walk_at "l3 step")
    exact fin fun _ => by (repeat walk_at "l3 step"); exact q _
/-- Ratio(n) -/
theorem init_int {n : Int} {R : Rv → List S → Prop} {Y : Er → List S → Prop} (q : ∀ fin : List S, fin[0]? = some (.oo true Z.C_Ratio ["_top", "_bottom"] [.int n, .int 1]) → R (.d .non) fin) : q_Ratio_init K Z [.oo true Z.C_Ratio [] [], .v (.int n), .v (.int 1)] R Y :=
  init_true (by omega) (by unfold B; exact Nat.one_lt_two_pow (by omega)) fun fin h => q fin (by rw [h, nm_one])
theorem as_num (T : Txt K mg Z) {d : D} {p : Int × Int} (h : Num Z d p) {R : Rv → List S → Prop} {Y : Er → List S → Prop} (q : ∀ fin, R (.d (ra Z p)) fin) : q_as_ratio K Z [.v d] R Y := by
  refine r_fn rfl ?_
  unfold w_as_ratio
  rcases h with rfl | ⟨n, rfl, rfl⟩ <;> (repeat walk_at "l3 step")
  · refine r_isi rfl rfl T.isi_Ratio T.kit_Ratio_Ratio ?_
    (repeat walk_at "l3 step")
    exact q _
  · refine r_isi rfl rfl trivial T.kit_int_Ratio ?_
    (repeat walk_at "l3 step")
    refine isint_int T fun _ => ?_
    (repeat walk_at "l3 step")
    refine init_int fun fin h => ⟨_, _, h, ?_⟩
    (repeat walk_at "l3 step")
    exact q _
theorem as_odd (T : Txt K mg Z) {d : D} (h : Odd d) {R : Rv → List S → Prop} {Y : Er → List S → Prop} (q : ∀ fin, Y (Z.C_BadNumber, [("given", d)]) fin) : q_as_ratio K Z [.v d] R Y := by
  refine r_fn rfl ?_
  unfold w_as_ratio
  have fin : ∀ {R : Rv → List S → Prop} {Y : Er → List S → Prop}, (∀ fin, R (.d (.bl false)) fin) → q_is_integer K Z [.v d] R Y := fun q => isint_odd T h q
  rcases h with ⟨b, rfl⟩ | rfl | ⟨x, rfl⟩ | ⟨x, rfl⟩ | ⟨x, rfl⟩ | ⟨ks, x, rfl⟩ <;> (repeat walk_at "l3 step")
  · refine r_isi rfl rfl trivial T.kit_bool_Ratio ?_
    (repeat walk_at "l3 step")
    exact fin fun _ => by (repeat walk_at "l3 step"); exact q _
  · refine r_isi rfl rfl trivial T.kit_NoneType_Ratio ?_
    (repeat walk_at "l3 step")
    exact fin fun _ => by (repeat walk_at "l3 step"); exact q _
  · refine r_isi rfl rfl trivial T.kit_str_Ratio ?_
    (repeat walk_at "l3 step")
    exact fin fun _ => by (repeat walk_at "l3 step"); exact q _
  · refine r_isi rfl rfl trivial T.kit_list_Ratio ?_
    (repeat walk_at "l3 step")
    exact fin fun _ => by (repeat walk_at "l3 step"); exact q _
  · refine r_isi rfl rfl trivial T.kit_tuple_Ratio ?_
    (repeat walk_at "l3 step")
    exact fin fun _ => by (repeat walk_at "l3 step"); exact q _
  · refine r_isi rfl rfl trivial T.kit_dict_Ratio ?_
    (repeat walk_at "l3 step")
    exact fin fun _ => by (repeat walk_at "l3 step"); exact q _

/-! ### crossed, sums, products -/
def cr (p r : Int × Int) : Int := p.1 * r.2 - r.1 * p.2
theorem crossed_true {k : Nat} {p r : Int × Int} (hp : Rt k p) (hr : Rt k r) (hk : k ≤ 4000) {R : Rv → List S → Prop} {Y : Er → List S → Prop} (q : ∀ fin, R (.d (.int (cr p r))) fin) : q_crossed K Z [.v (ra Z p), .v (ra Z r)] R Y := by
  refine r_fn rfl ?_
  unfold w_crossed
  (repeat walk_at "l3 step")
  refine top_true fun _ => ?_
  (repeat walk_at "l3 step")
  refine bottom_true fun _ => ?_
  (repeat walk_at "l3 step")
  · refine top_true fun _ => ?_
    (repeat walk_at "l3 step")
    refine bottom_true fun _ => ?_
    (repeat walk_at "l3 step")
    · exact q _
    · exact hr.b1.mulW hp.b2 (by omega)
  · exact hp.b1.mulW hr.b2 (by omega)
def pl (p r : Int × Int) : Int × Int := nm (p.1 * r.2 + r.1 * p.2) (p.2 * r.2)
def mi (p r : Int × Int) : Int × Int := nm (p.1 * r.2 - r.1 * p.2) (p.2 * r.2)
def ti (p r : Int × Int) : Int × Int := nm (p.1 * r.1) (p.2 * r.2)
theorem bot_ne {j k : Nat} {p r : Int × Int} (hp : Rt j p) (hr : Rt k r) : p.2 * r.2 ≠ 0 := by
  have := Int.mul_pos hp.pos hr.pos
  omega
theorem pl_rt {k : Nat} {p r : Int × Int} (hp : Rt k p) (hr : Rt k r) : Rt (k + k + 1) (pl p r) := nm_rt (bot_ne hp hr) ((hp.b1.mul hr.b2).add (hr.b1.mul hp.b2)) ((hp.b2.mul hr.b2).mono (by omega))
theorem add_true (T : Txt K mg Z) {k : Nat} {p r : Int × Int} {d : D} (hp : Rt k p) (hr : Rt k r) (hd : Num Z d r) (hk : k ≤ 4000) {R : Rv → List S → Prop} {Y : Er → List S → Prop} (q : ∀ fin, R (.d (ra Z (pl p r))) fin) : q_Ratio_add K Z [.v (ra Z p), .v d] R Y := by
  refine r_fn rfl ?_
  unfold w_Ratio_add
  (repeat walk_at "l3 step")
  refine isnum T hd fun _ => ?_
  (repeat walk_at "l3 step")
  refine as_num T hd fun _ => ?_
  (repeat walk_at "l3 step")
  refine bottom_true fun _ => ?_
  (repeat walk_at "l3 step")
  · refine top_true fun _ => ?_
    (repeat walk_at "l3 step")
    · refine bottom_true fun _ => ?_
      (repeat walk_at "l3 step")
      · refine init_true (bot_ne hp hr) ((hp.b2.mul hr.b2).mono (by omega)) fun fin h => ⟨_, _, h, ?_⟩
        (repeat walk_at "l3 step")
        exact q _
      · exact hp.b2.mulW hr.b2 (by omega)
    · exact hr.b1.mulW hp.b2 (by omega)
  · exact hp.b1.mulW hr.b2 (by omega)

theorem sub_true (T : Txt K mg Z) {k : Nat} {p r : Int × Int} {d : D} (hp : Rt k p) (hr : Rt k r) (hd : Num Z d r) (hk : k ≤ 4000) {R : Rv → List S → Prop} {Y : Er → List S → Prop} (q : ∀ fin, R (.d (ra Z (mi p r))) fin) : q_Ratio_sub K Z [.v (ra Z p), .v d] R Y := by
  refine r_fn rfl ?_
  unfold w_Ratio_sub
  (repeat walk_at "l3 step")
  refine isnum T hd fun _ => ?_
  (repeat walk_at "l3 step")
  refine as_num T hd fun _ => ?_
  (repeat walk_at "l3 step")
  refine crossed_true hp hr hk fun _ => ?_
  (repeat walk_at "l3 step")
  refine as_num T hd fun _ => ?_
  (repeat walk_at "l3 step")
  refine bottom_true fun _ => ?_
  (repeat walk_at "l3 step")
  · refine init_true (bot_ne hp hr) ((hp.b2.mul hr.b2).mono (by omega)) fun fin h => ⟨_, _, h, ?_⟩
    (repeat walk_at "l3 step")
    exact q _
  · exact hp.b2.mulW hr.b2 (by omega)
theorem mul_true (T : Txt K mg Z) {k : Nat} {p r : Int × Int} {d : D} (hp : Rt k p) (hr : Rt k r) (hd : Num Z d r) (hk : k ≤ 4000) {R : Rv → List S → Prop} {Y : Er → List S → Prop} (q : ∀ fin, R (.d (ra Z (ti p r))) fin) : q_Ratio_mul K Z [.v (ra Z p), .v d] R Y := by
  refine r_fn rfl ?_
  unfold w_Ratio_mul
  (repeat walk_at "l3 step")
  refine isnum T hd fun _ => ?_
  (repeat walk_at "l3 step")
  refine as_num T hd fun _ => ?_
  (repeat walk_at "l3 step")
  refine top_true fun _ => ?_
  (repeat walk_at "l3 step")
  · refine bottom_true fun _ => ?_
    (repeat walk_at "l3 step")
    · refine init_true (bot_ne hp hr) ((hp.b2.mul hr.b2).mono (by omega)) fun fin h => ⟨_, _, h, ?_⟩
      (repeat walk_at "l3 step")
      exact q _
    · exact hp.b2.mulW hr.b2 (by omega)
  · exact hp.b1.mulW hr.b1 (by omega)
theorem neg_true {k : Nat} {p : Int × Int} (hp : Rt k p) (hk : k ≤ 4000) {R : Rv → List S → Prop} {Y : Er → List S → Prop} (q : ∀ fin, R (.d (ra Z (nm (-p.1) p.2))) fin) : q_Ratio_neg K Z [.v (ra Z p)] R Y := by
  refine r_fn rfl ?_
  unfold w_Ratio_neg
  (repeat walk_at "l3 step")
  refine init_true (by have := hp.pos; omega) (hp.b2.mono (by omega)) fun fin h => ⟨_, _, h, ?_⟩
  (repeat walk_at "l3 step")
  exact q _
theorem over_true (T : Txt K mg Z) {k : Nat} {p r : Int × Int} {d : D} (hp : Rt k p) (hr : Rt k r) (h0 : r.1 ≠ 0) (hd : Num Z d r) (hk : k ≤ 4000) {R : Rv → List S → Prop} {Y : Er → List S → Prop} (q : ∀ fin, R (.d (ra Z (nm (p.1 * r.2) (p.2 * r.1)))) fin) : q_Ratio_over K Z [.v (ra Z p), .v d] R Y := by
  refine r_fn rfl ?_
  unfold w_Ratio_over
  (repeat walk_at "l3 step")
  refine as_num T hd fun _ => ?_
  (repeat walk_at "l3 step")
  refine bottom_true fun _ => ?_
  (repeat walk_at "l3 step")
  · refine top_true fun _ => ?_
    (repeat walk_at "l3 step")
    · refine init_true (Int.mul_ne_zero (by have := hp.pos; omega) h0) ((hp.b2.mul hr.b1).mono (by omega)) fun fin h => ⟨_, _, h, ?_⟩
      (repeat walk_at "l3 step")
      exact q _
    · exact hp.b2.mulW hr.b1 (by omega)
  · exact hp.b1.mulW hr.b2 (by omega)
theorem over_zero (T : Txt K mg Z) {k : Nat} {p : Int × Int} {d : D} (hp : Rt k p) (hd : Num Z d (0, 1)) (hk : k ≤ 4000) {R : Rv → List S → Prop} {Y : Er → List S → Prop} (q : ∀ fin, Y (Z.C_ByZero, []) fin) : q_Ratio_over K Z [.v (ra Z p), .v d] R Y := by
  refine r_fn rfl ?_
  unfold w_Ratio_over
  have z1 : Rt 1 ((0 : Int), (1 : Int)) := rt_int (by unfold B; decide) (by omega)
  (repeat walk_at "l3 step")
  refine as_num T hd fun _ => ?_
  (repeat walk_at "l3 step")
  refine bottom_true fun _ => ?_
  (repeat walk_at "l3 step")
  · refine top_true fun _ => ?_
    (repeat walk_at "l3 step")
    · show q_Ratio_init K Z [_, _, .v (.int (p.2 * 0))] _ _
      rw [Int.mul_zero]
      exact init_zero fun _ => q _
    · exact hp.b2.mulW z1.b1 (by omega)
  · exact hp.b1.mulW z1.b2 (by omega)
theorem eq_num (T : Txt K mg Z) {k : Nat} {p r : Int × Int} {d : D} (hp : Rt k p) (hr : Rt k r) (hd : Num Z d r) (hk : k ≤ 4000) {R : Rv → List S → Prop} {Y : Er → List S → Prop} (q : ∀ fin, R (.d (.bl (decide (cr p r = 0)))) fin) : q_Ratio_eq K Z [.v (ra Z p), .v d] R Y := by
  refine r_fn rfl ?_
  unfold w_Ratio_eq
  (repeat walk_at "l3 step")
  refine isnum T hd fun _ => ?_
  (repeat walk_at "l3 step")
  refine as_num T hd fun _ => ?_
  (repeat walk_at "l3 step")
  refine crossed_true hp hr hk fun _ => ?_
  (repeat walk_at "l3 step")
  exact q _
theorem eq_odd (T : Txt K mg Z) {p : Int × Int} {d : D} (hd : Odd d) {R : Rv → List S → Prop} {Y : Er → List S → Prop} (q : ∀ fin, R (.d (.bl false)) fin) : q_Ratio_eq K Z [.v (ra Z p), .v d] R Y := by
  refine r_fn rfl ?_
  unfold w_Ratio_eq
  (repeat walk_at "l3 step")
  refine isnum_odd T hd fun _ => ?_
  (repeat walk_at "l3 step")
  exact q _
theorem lt_true (T : Txt K mg Z) {k : Nat} {p r : Int × Int} {d : D} (hp : Rt k p) (hr : Rt k r) (hd : Num Z d r) (hk : k ≤ 4000) {R : Rv → List S → Prop} {Y : Er → List S → Prop} (q : ∀ fin, R (.d (.bl (decide (cr p r < 0)))) fin) : q_Ratio_lt K Z [.v (ra Z p), .v d] R Y := by
  refine r_fn rfl ?_
  unfold w_Ratio_lt
  (repeat walk_at "l3 step")
  refine isnum T hd fun _ => ?_
  (repeat walk_at "l3 step")
  refine as_num T hd fun _ => ?_
  (repeat walk_at "l3 step")
  refine crossed_true hp hr hk fun _ => ?_
  (repeat walk_at "l3 step")
  exact q _
theorem le_true (T : Txt K mg Z) {k : Nat} {p r : Int × Int} {d : D} (hp : Rt k p) (hr : Rt k r) (hd : Num Z d r) (hk : k ≤ 4000) {R : Rv → List S → Prop} {Y : Er → List S → Prop} (q : ∀ fin, R (.d (.bl (decide (cr p r ≤ 0)))) fin) : q_Ratio_le K Z [.v (ra Z p), .v d] R Y := by
  refine r_fn rfl ?_
  unfold w_Ratio_le
  (repeat walk_at "l3 step")
  refine isnum T hd fun _ => ?_
  (repeat walk_at "l3 step")
  refine as_num T hd fun _ => ?_
  (repeat walk_at "l3 step")
  refine crossed_true hp hr hk fun _ => ?_
  (repeat walk_at "l3 step")
  exact q _
end
end K02

set_option Elab.async false
set_option linter.all false
set_option maxRecDepth 100000
set_option maxHeartbeats 1000000
namespace K02
open PySem L2 L3
set_option exponentiation.threshold 10
section
variable {K : PySem.W.Frag} {mg : Str → Option Value} {Z : Ad}
/-! ### operators as they stand in a text -/
theorem num_bin {d : D} {p : Int × Int} (h : Num Z d p) : okBin Z.C_Ratio d := by
  rcases h with rfl | ⟨n, rfl, rfl⟩
  · exact .inr ⟨_, _, rfl⟩
  · exact .inl ⟨_, rfl⟩
theorem num_cmp (T : Txt K mg Z) {d : D} {p : Int × Int} (h : Num Z d p) : okCmp K Z.C_Ratio d := by
  rcases h with rfl | ⟨n, rfl, rfl⟩
  · exact ⟨_, rfl, T.nf_Ratio_Ratio⟩
  · exact ⟨_, rfl, T.nf_Ratio_int⟩
theorem odd_cmp (T : Txt K mg Z) {d : D} (h : Odd d) : okCmp K Z.C_Ratio d := by
  rcases h with ⟨b, rfl⟩ | rfl | ⟨x, rfl⟩ | ⟨x, rfl⟩ | ⟨x, rfl⟩ | ⟨ks, x, rfl⟩
  · exact ⟨_, rfl, T.nf_Ratio_bool⟩
  · exact ⟨_, rfl, T.nf_Ratio_NoneType⟩
  · exact ⟨_, rfl, T.nf_Ratio_str⟩
  · exact ⟨_, rfl, T.nf_Ratio_list⟩
  · exact ⟨_, rfl, T.nf_Ratio_tuple⟩
  · exact ⟨_, rfl, T.nf_Ratio_dict⟩
variable {k : Nat} {p r : Int × Int} {d : D} {P : D → Prop}
theorem u_add (T : Txt K mg Z) (hp : Rt k p) (hr : Rt k r) (hd : Num Z d r) (hk : k ≤ 4000) (q : P (ra Z (pl p r))) : oOwn Z.C_Ratio (q_Ratio_add K Z) (okBin Z.C_Ratio) (ra Z p) d P := ⟨⟨_, _, rfl⟩, num_bin hd, add_true T hp hr hd hk fun _ => q⟩
theorem u_sub (T : Txt K mg Z) (hp : Rt k p) (hr : Rt k r) (hd : Num Z d r) (hk : k ≤ 4000) (q : P (ra Z (mi p r))) : oOwn Z.C_Ratio (q_Ratio_sub K Z) (okBin Z.C_Ratio) (ra Z p) d P := ⟨⟨_, _, rfl⟩, num_bin hd, sub_true T hp hr hd hk fun _ => q⟩
theorem u_mul (T : Txt K mg Z) (hp : Rt k p) (hr : Rt k r) (hd : Num Z d r) (hk : k ≤ 4000) (q : P (ra Z (ti p r))) : oOwn Z.C_Ratio (q_Ratio_mul K Z) (okBin Z.C_Ratio) (ra Z p) d P := ⟨⟨_, _, rfl⟩, num_bin hd, mul_true T hp hr hd hk fun _ => q⟩
theorem u_neg (hp : Rt k p) (hk : k ≤ 4000) (q : P (ra Z (nm (-p.1) p.2))) : oOwn1 Z.C_Ratio (q_Ratio_neg K Z) (ra Z p) P := ⟨⟨_, _, rfl⟩, neg_true hp hk fun _ => q⟩
theorem u_eq (T : Txt K mg Z) (hp : Rt k p) (hr : Rt k r) (hd : Num Z d r) (hk : k ≤ 4000) (q : P (.bl (decide (cr p r = 0)))) : oOwn Z.C_Ratio (q_Ratio_eq K Z) (okCmp K Z.C_Ratio) (ra Z p) d P := ⟨⟨_, _, rfl⟩, num_cmp T hd, eq_num T hp hr hd hk fun _ => q⟩
theorem u_eqO (T : Txt K mg Z) (hd : Odd d) (q : P (.bl false)) : oOwn Z.C_Ratio (q_Ratio_eq K Z) (okCmp K Z.C_Ratio) (ra Z p) d P := ⟨⟨_, _, rfl⟩, odd_cmp T hd, eq_odd T hd fun _ => q⟩
theorem u_ne (T : Txt K mg Z) (hp : Rt k p) (hr : Rt k r) (hd : Num Z d r) (hk : k ≤ 4000) (h : p = r) (q : P (.bl false)) : oOwnNe Z.C_Ratio (q_Ratio_eq K Z) (okCmp K Z.C_Ratio) (ra Z p) d P := ⟨⟨_, _, rfl⟩, num_cmp T hd, eq_num T hp hr hd hk fun _ => ⟨_, rfl, by
  subst h
  have e : decide (cr p p = 0) = true := decide_eq_true (by unfold cr; omega)
  rw [e]; exact q⟩⟩
theorem u_lt (T : Txt K mg Z) (hp : Rt k p) (hr : Rt k r) (hd : Num Z d r) (hk : k ≤ 4000) (q : P (.bl (decide (cr p r < 0)))) : oOwn Z.C_Ratio (q_Ratio_lt K Z) (okCmp K Z.C_Ratio) (ra Z p) d P := ⟨⟨_, _, rfl⟩, num_cmp T hd, lt_true T hp hr hd hk fun _ => q⟩
theorem u_le (T : Txt K mg Z) (hp : Rt k p) (hr : Rt k r) (hd : Num Z d r) (hk : k ≤ 4000) (q : P (.bl (decide (cr p r ≤ 0)))) : oOwn Z.C_Ratio (q_Ratio_le K Z) (okCmp K Z.C_Ratio) (ra Z p) d P := ⟨⟨_, _, rfl⟩, num_cmp T hd, le_true T hp hr hd hk fun _ => q⟩
theorem eqv_bb (a b : Bool) : PyData.eqv (.bool a) (.bool b) = (a == b) := by
  cases a <;> cases b <;> first | rfl | decide | simp [PyData.eqv]
theorem u_neB {a b : Bool} (h : a = b) (q : P (.bl false)) : oNeD (.bl a) (.bl b) P := ⟨.bool a, .bool b, rfl, rfl, rfl, rfl, by
  subst h
  rw [eqv_bb, beq_self_eq_true]; exact q⟩
theorem u_eqB {a b : Bool} (h : a = b) (q : P (.bl true)) : oEqD (.bl a) (.bl b) P := ⟨.bool a, .bool b, rfl, rfl, rfl, rfl, by
  subst h
  rw [eqv_bb, beq_self_eq_true]; exact q⟩
theorem eqv_str (x : Str) : PyData.eqv (.str x) (.str x) = true := by
  first | (simp [PyData.eqv]; done) | (unfold PyData.eqv; simp)
theorem u_eqS {x : Str} (hs : SeqAt.shaped (.str x) = true) (q : P (.bl true)) : oEqD (.str x) (.str x) P := ⟨.str x, .str x, rfl, rfl, hs, hs, by rw [eqv_str]; exact q⟩
theorem eqv_ii (a b : Int) : PyData.eqv (.int a) (.int b) = decide (a = b) := by
  first | rfl | (unfold PyData.eqv; simp) | simp [PyData.eqv]
theorem eqv_pp (x y : Int × Int) : PyData.eqv (.tuple [.int x.1, .int x.2]) (.tuple [.int y.1, .int y.2]) = decide (x = y) := by
  have e : decide (x = y) = (decide (x.1 = y.1) && decide (x.2 = y.2)) := by
    by_cases h : x = y
    · subst h; simp
    · rw [decide_eq_false h]
      by_cases h1 : x.1 = y.1
      · by_cases h2 : x.2 = y.2
        · exact absurd (Prod.ext h1 h2) h
        · rw [decide_eq_false h2, Bool.and_false]
      · rw [decide_eq_false h1, Bool.false_and]
  rw [e]
  have b : ∀ a c : Int, (a == c) = decide (a = c) := fun a c => rfl
  simp [PyData.eqv, PyData.eqvAll, eqv_ii, b]
theorem u_eqT {x y : Int × Int} (q : P (.bl (decide (x = y)))) : oEqD (pr x) (pr y) P := ⟨.tuple [.int x.1, .int x.2], .tuple [.int y.1, .int y.2], rfl, rfl, rfl, rfl, by rw [eqv_pp]; exact q⟩
theorem u_neN (q : P (.bl false)) : oNeD (.lst []) (.lst []) P := ⟨.list [], .list [], rfl, rfl, rfl, rfl, by
  have e : PyData.eqv (.list []) (.list []) = true := by first | rfl | simp [PyData.eqv, PyData.eqvAll]
  rw [e]; exact q⟩
theorem u_neTT (q : P (.bl false)) : oNeD (.lst [.bl true, .bl true]) (.lst [.bl true, .bl true]) P := ⟨.list [.bool true, .bool true], .list [.bool true, .bool true], rfl, rfl, rfl, rfl, by
  have e : PyData.eqv (.list [.bool true, .bool true]) (.list [.bool true, .bool true]) = true := by first | rfl | decide | simp [PyData.eqv, PyData.eqvAll, eqv_bb]
  rw [e]; exact q⟩
end
end K02

set_option Elab.async false
set_option linter.all false
set_option maxRecDepth 100000
set_option maxHeartbeats 1000000
namespace K02
open PySem L2 L3
set_option exponentiation.threshold 10
section
variable {K : PySem.W.Frag} {mg : Str → Option Value} {Z : Ad}
/-! ### the law's own sums -/
theorem plus_true {k : Nat} {x y : Int × Int} (hx : Rt k x) (hy : Rt k y) (hk : k ≤ 4000) {R : Rv → List S → Prop} {Y : Er → List S → Prop} (q : ∀ fin, R (.d (pr (pl x y))) fin) : q_l_plus K Z [.v (pr x), .v (pr y)] R Y := by
  refine r_fn rfl ?_
  unfold w_l_plus
  (repeat walk_at "l3 step")
  · refine frac_true (bot_ne hx hy) ((hx.b2.mul hy.b2).mono (by omega)) fun _ => ?_
    (repeat walk_at "l3 step")
    exact q _
  · exact hx.b2.mulW hy.b2 (by omega)
  · exact hy.b1.mulW hx.b2 (by omega)
  · exact hx.b1.mulW hy.b2 (by omega)
theorem minus_true {k : Nat} {x y : Int × Int} (hx : Rt k x) (hy : Rt k y) (hk : k ≤ 4000) {R : Rv → List S → Prop} {Y : Er → List S → Prop} (q : ∀ fin, R (.d (pr (mi x y))) fin) : q_l_minus K Z [.v (pr x), .v (pr y)] R Y := by
  refine r_fn rfl ?_
  unfold w_l_minus
  (repeat walk_at "l3 step")
  · refine frac_true (bot_ne hx hy) ((hx.b2.mul hy.b2).mono (by omega)) fun _ => ?_
    (repeat walk_at "l3 step")
    exact q _
  · exact hx.b2.mulW hy.b2 (by omega)
  · exact hy.b1.mulW hx.b2 (by omega)
  · exact hx.b1.mulW hy.b2 (by omega)
theorem times_true {k : Nat} {x y : Int × Int} (hx : Rt k x) (hy : Rt k y) (hk : k ≤ 4000) {R : Rv → List S → Prop} {Y : Er → List S → Prop} (q : ∀ fin, R (.d (pr (ti x y))) fin) : q_l_times K Z [.v (pr x), .v (pr y)] R Y := by
  refine r_fn rfl ?_
  unfold w_l_times
  (repeat walk_at "l3 step")
  · refine frac_true (bot_ne hx hy) ((hx.b2.mul hy.b2).mono (by omega)) fun _ => ?_
    (repeat walk_at "l3 step")
    exact q _
  · exact hx.b2.mulW hy.b2 (by omega)
  · exact hx.b1.mulW hy.b1 (by omega)
theorem less_true {k : Nat} {x y : Int × Int} (hx : Rt k x) (hy : Rt k y) (hk : k ≤ 4000) {R : Rv → List S → Prop} {Y : Er → List S → Prop} (q : ∀ fin, R (.d (.bl (decide (cr x y < 0)))) fin) : q_l_less K Z [.v (pr x), .v (pr y)] R Y := by
  refine r_fn rfl ?_
  unfold w_l_less
  have e : decide (x.1 * y.2 < y.1 * x.2) = decide (cr x y < 0) := decide_eq_decide.mpr (by unfold cr; omega)
  (repeat walk_at "l3 step")
  · rw [e]; exact q _
  · exact hy.b1.mulW hx.b2 (by omega)
  · exact hx.b1.mulW hy.b2 (by omega)
theorem is_true (T : Txt K mg Z) {x y : Int × Int} (h : x = y) {R : Rv → List S → Prop} {Y : Er → List S → Prop} (q : ∀ fin, R (.d (.bl true)) fin) : q_l_is K Z [.v (ra Z x), .v (pr y)] R Y := by
  subst h
  refine r_fn rfl ?_
  unfold w_l_is
  (repeat walk_at "l3 step")
  refine r_isi rfl rfl T.isi_Ratio T.kit_Ratio_Ratio ?_
  (repeat walk_at "l3 step")
  refine top_true fun _ => ?_
  (repeat walk_at "l3 step")
  refine bottom_true fun _ => ?_
  (repeat walk_at "l3 step")
  refine u_eqT ?_
  rw [decide_eq_true rfl]
  exact q _
theorem cr_zero {j k : Nat} {x y : Int × Int} (hx : Rt j x) (hy : Rt k y) : decide (cr x y = 0) = decide (x = y) := decide_eq_decide.mpr ⟨fun h => rt_uniq hx hy (by unfold cr at h; omega), fun h => by subst h; unfold cr; omega⟩
theorem cr_swap (x y : Int × Int) : cr y x = - cr x y := by unfold cr; omega
theorem compared_true (T : Txt K mg Z) {k : Nat} {x y : Int × Int} {d : D} (hx : Rt k x) (hy : Rt k y) (hd : Num Z d y) (hk : k ≤ 4000) {R : Rv → List S → Prop} {Y : Er → List S → Prop} (q : ∀ fin, R (.d (.bl true)) fin) : q_l_compared K Z [.v (ra Z x), .v d, .v (pr x), .v (pr y)] R Y := by
  refine r_fn rfl ?_
  unfold w_l_compared
  (repeat walk_at "l3 step")
  refine u_eq T hx hy hd hk ?_
  (repeat walk_at "l3 step")
  refine u_eqT ?_
  refine u_neB (cr_zero hx hy) ?_
  (repeat walk_at "l3 step")
  refine u_lt T hx hy hd hk ?_
  (repeat walk_at "l3 step")
  refine less_true hx hy hk fun _ => ?_
  (repeat walk_at "l3 step")
  refine u_neB rfl ?_
  (repeat walk_at "l3 step")
  refine u_le T hx hy hd hk ?_
  (repeat walk_at "l3 step")
  refine less_true hy hx hk fun _ => ?_
  (repeat walk_at "l3 step")
  refine u_eqB ?_ (q _)
  rw [cr_swap x y, ← decide_not]
  exact decide_eq_decide.mpr (by omega)
def lw (p r : Int × Int) : Int × Int := if cr p r < 0 then p else r
def hi (p r : Int × Int) : Int × Int := if cr p r < 0 then r else p
theorem lw_rt {k : Nat} {p r : Int × Int} (hp : Rt k p) (hr : Rt k r) : Rt k (lw p r) := by unfold lw; split <;> assumption
theorem hi_rt {k : Nat} {p r : Int × Int} (hp : Rt k p) (hr : Rt k r) : Rt k (hi p r) := by unfold hi; split <;> assumption
theorem lesser_true (T : Txt K mg Z) {k : Nat} {p r : Int × Int} {d e : D} (hp : Rt k p) (hr : Rt k r) (hd : Num Z d p) (he : Num Z e r) (hk : k ≤ 4000) {R : Rv → List S → Prop} {Y : Er → List S → Prop} (q : ∀ fin, R (.d (ra Z (lw p r))) fin) : q_lesser K Z [.v d, .v e] R Y := by
  refine r_fn rfl ?_
  unfold w_lesser
  (repeat walk_at "l3 step")
  refine as_num T hd fun _ => ?_
  (repeat walk_at "l3 step")
  refine as_num T he fun _ => ?_
  (repeat walk_at "l3 step")
  refine u_lt T hp hr (Num.own r) hk ?_
  (repeat walk_at "l3 step")
  refine r_ite (fun h => ?_) (fun h => ?_) <;> (repeat walk_at "l3 step")
  · have := q; unfold lw at this; rw [if_pos h] at this; exact this _
  · have := q; unfold lw at this; rw [if_neg h] at this; exact this _
theorem greater_true (T : Txt K mg Z) {k : Nat} {p r : Int × Int} {d e : D} (hp : Rt k p) (hr : Rt k r) (hd : Num Z d p) (he : Num Z e r) (hk : k ≤ 4000) {R : Rv → List S → Prop} {Y : Er → List S → Prop} (q : ∀ fin, R (.d (ra Z (hi p r))) fin) : q_greater K Z [.v d, .v e] R Y := by
  refine r_fn rfl ?_
  unfold w_greater
  (repeat walk_at "l3 step")
  refine as_num T hd fun _ => ?_
  (repeat walk_at "l3 step")
  refine as_num T he fun _ => ?_
  (repeat walk_at "l3 step")
  refine u_lt T hp hr (Num.own r) hk ?_
  (repeat walk_at "l3 step")
  refine r_ite (fun h => ?_) (fun h => ?_) <;> (repeat walk_at "l3 step")
  · have := q; unfold hi at this; rw [if_pos h] at this; exact this _
  · have := q; unfold hi at this; rw [if_neg h] at this; exact this _
theorem lw_comm {k : Nat} {p r : Int × Int} (hp : Rt k p) (hr : Rt k r) : lw r p = lw p r := by
  unfold lw
  have := cr_swap p r
  by_cases h : cr p r < 0
  · rw [if_pos h, if_neg (by omega)]
  · rw [if_neg h]
    by_cases h2 : cr r p < 0
    · rw [if_pos h2]
    · rw [if_neg h2]
      exact rt_uniq hp hr (by unfold cr at *; omega)
theorem hi_comm {k : Nat} {p r : Int × Int} (hp : Rt k p) (hr : Rt k r) : hi r p = hi p r := by
  unfold hi
  have := cr_swap p r
  by_cases h : cr p r < 0
  · rw [if_pos h, if_neg (by omega)]
  · rw [if_neg h]
    by_cases h2 : cr r p < 0
    · rw [if_pos h2]
    · rw [if_neg h2]
      exact rt_uniq hr hp (by unfold cr at *; omega)
/-! ### sums of many -/
def tot : Int × Int → List (Int × Int) → Int × Int
  | s, [] => s
  | s, p :: ps => tot (pl s p) ps
theorem vl_pl {k : Nat} {p r : Int × Int} (hp : Rt k p) (hr : Rt k r) : vl (pl p r) = vl p + vl r := by
  have n1 := cast_ne (show p.2 ≠ 0 by have := hp.pos; omega)
  have n2 := cast_ne (show r.2 ≠ 0 by have := hr.pos; omega)
  unfold pl
  rw [vl_nm (bot_ne hp hr)]
  unfold vl
  rw [Rat.intCast_add, Rat.intCast_mul, Rat.intCast_mul, Rat.intCast_mul]
  grind
theorem tot_go (T : Txt K mg Z) {R : Rv → List S → Prop} {Y : Er → List S → Prop} {ds0 : D} : ∀ (ds : List D) (ps : List (Int × Int)) (s : Int × Int) (sl : S) (k : Nat), ds.length = ps.length → (∀ (i : Nat) (d : D) (p : Int × Int), ds[i]? = some d → ps[i]? = some p → Num Z d p ∧ Rt k p) → Rt k s → (k + 1) * 2 ^ ds.length ≤ 4001 → (∀ fin, R (.d (ra Z (tot s ps))) fin) →
    loopD (wgName 2) (wSet 1 (wOp (oOwn Z.C_Ratio (q_Ratio_add K Z) (okBin Z.C_Ratio)) (wVar 1) (wCall (q_as_ratio K Z) [] (wCons (wVar 2) wNil)))) { nx := fun δ1 => wRet (wVar 1) δ1 { nx := fun δ => R (.d .non) δ, rt := R, bk := fun _ => False, ct := fun _ => False, xx := Y }, rt := R, bk := fun _ => False, ct := fun _ => False, xx := Y } ds [.v ds0, .v (ra Z s), sl]
  | [], [], s, sl, k, _, _, _, _, q => by
    show wRet (wVar 1) [.v ds0, .v (ra Z s), sl] _
    (repeat walk_at "l3 step")
    exact q _
  | [], _ :: _, _, _, _, h, _, _, _, _ => by cases h
  | _ :: _, [], _, _, _, h, _, _, _, _ => by cases h
  | d :: ds, p :: ps, s, sl, k, h, hn, hs, hk, q => by
    obtain ⟨h1, h2⟩ := hn 0 d p rfl rfl
    have hk4 : k ≤ 4000 := by
      have : 1 ≤ 2 ^ (d :: ds).length := Nat.one_le_two_pow
      have := Nat.le_mul_of_pos_right (k + 1) this
      omega
    show wSet 1 _ [.v ds0, .v (ra Z s), .v d] _
    (repeat walk_at "l3 step")
    refine as_num T h1 fun _ => ?_
    (repeat walk_at "l3 step")
    refine u_add T hs h2 (Num.own p) hk4 ?_
    (repeat walk_at "l3 step")
    exact tot_go T ds ps (pl s p) (.v d) (k + k + 1) (Nat.succ.inj h) (fun i d' p' e1 e2 => ⟨(hn (i + 1) d' p' e1 e2).1, (hn (i + 1) d' p' e1 e2).2.mono (by omega)⟩) (pl_rt hs h2) (by
      have e : (k + k + 1 + 1) * 2 ^ ds.length = (k + 1) * 2 ^ (d :: ds).length := by
        rw [List.length_cons, Nat.pow_succ]; generalize 2 ^ ds.length = z; grind
      rw [e]; exact hk) q
theorem total_true (T : Txt K mg Z) {ds : List D} {ps : List (Int × Int)} {k : Nat} (h : ds.length = ps.length) (hn : ∀ (i : Nat) (d : D) (p : Int × Int), ds[i]? = some d → ps[i]? = some p → Num Z d p ∧ Rt k p) (h1 : 1 ≤ k) (hk : (k + 1) * 2 ^ ds.length ≤ 4001) {R : Rv → List S → Prop} {Y : Er → List S → Prop} (q : ∀ fin, R (.d (ra Z (tot (0, 1) ps))) fin) : q_total K Z [.v (.lst ds)] R Y := by
  refine r_fn rfl ?_
  unfold w_total
  (repeat walk_at "l3 step")
  refine init_int fun fin hf => ⟨_, _, hf, ?_⟩
  (repeat walk_at "l3 step")
  refine ⟨_, _, rfl, rfl, ?_⟩
  exact tot_go T ds ps (0, 1) _ k h hn (rt_int (by unfold B; exact Nat.two_pow_pos _) h1) hk q
theorem refused_true (T : Txt K mg Z) {d : D} {x : Str} (hd : Odd d) (hx : reprD d = some x) (hs : SeqAt.shaped (.str x) = true) {R : Rv → List S → Prop} {Y : Er → List S → Prop} (q : ∀ fin, R (.d (.bl true)) fin) : q_l_refused K Z [.v d] R Y := by
  refine r_fn rfl ?_
  unfold w_l_refused
  refine r_seq ?_
  show wExpr _ _ _
  (repeat walk_at "l3 step")
  refine as_odd T hd fun _ => ⟨true, T.exm_BadNumber_BadNumber, fun _ a dd hdd => ?_, fun z => by cases z⟩
  (repeat walk_at "l3 step")
  refine ⟨rfl, hdd (by simp), _, _, _, rfl, rfl, ?_⟩
  (repeat walk_at "l3 step")
  refine r_repr hx ?_
  (repeat walk_at "l3 step")
  refine r_repr hx ?_
  exact u_eqS hs (q _)
theorem zero_true (T : Txt K mg Z) {k : Nat} {p : Int × Int} {d : D} (hp : Rt k p) (hd : Num Z d (0, 1)) (hk : k ≤ 4000) {R : Rv → List S → Prop} {Y : Er → List S → Prop} (q : ∀ fin, R (.d (.bl true)) fin) : q_l_zero K Z [.v (ra Z p), .v d] R Y := by
  refine r_fn rfl ?_
  unfold w_l_zero
  (repeat walk_at "l3 step")
  show wExpr _ _ _
  (repeat walk_at "l3 step")
  refine over_zero T hp hd hk fun _ => ⟨true, T.exm_ByZero_ByZero, fun _ => ?_, fun z => by cases z⟩
  (repeat walk_at "l3 step")
  show wExpr _ _ _
  (repeat walk_at "l3 step")
  refine top_true fun _ => ?_
  (repeat walk_at "l3 step")
  refine init_zero fun _ => ⟨true, T.exm_ByZero_ByZero, fun _ => ?_, fun z => by cases z⟩
  (repeat walk_at "l3 step")
  exact q _
end
end K02

set_option Elab.async false
set_option linter.all false
set_option maxRecDepth 100000
set_option maxHeartbeats 1000000
namespace K02
open PySem L2 L3
section
variable {K : PySem.W.Frag} {mg : Str → Option Value} {Z : Ad}
/-- the law's box of draws behind at most c of them -/
def Box (c : Int) (xs : List D) : Prop := ∃ b0 b1 b2 : Int, xs = [.int b0, .int b1, .int b2] ∧ 0 ≤ b0 ∧ 0 ≤ b1 ∧ b1 ≤ c ∧ 0 ≤ b2 ∧ b2 ≤ 4000000
theorem B.of {x : Int} (h : x.natAbs < 1000000000000000000000000000000) : B 100 x := Nat.lt_of_lt_of_le h (Nat.le_of_ble_eq_true rfl)
theorem pow3 {x : Int} (h : B 100 x) : CPowB x 3 := by
  have l := PySem.Flt.log2_lt_of (by omega : 0 < 100) h
  have b : PySem.Builtin.Int.intBits x ≤ x.natAbs.log2 + 1 := by
    unfold PySem.Builtin.Int.intBits
    split <;> omega
  refine ⟨by omega, ?_⟩
  have : (PySem.Builtin.Int.intBits x : Int) ≤ 100 := by omega
  omega
theorem div64 {x : Int} : CDivF x 64 := ⟨by omega, PySem.Flt.log2_lt_of (by omega) (by show 64 < 2 ^ 9000; exact Nat.lt_of_lt_of_le (by decide : 64 < 2 ^ 10) (Nat.pow_le_pow_right (by omega) (by omega)))⟩
theorem take_true {c m : Int} {xs : List D} (hb : Box c xs) (hc : c ≤ 1000000) (hm : 0 < m) (hl : B 9000 m) {R : Rv → List S → Prop} {Y : Er → List S → Prop}
    (q : ∀ (i : Int) (xs' : List D) (fin : List S), 0 ≤ i → i < m → Box (c + 1) xs' → fin[0]? = some (.ol true xs') → R (.d (.int i)) fin) : q_l_take K Z [.ol true xs, .v (.int m)] R Y := by
  obtain ⟨b0, b1, b2, rfl, h0, h1, h1c, h2, h2c⟩ := hb
  refine r_fn rfl ?_
  unfold w_l_take
  have cm : ∀ x, CDivF x m := fun x => ⟨by omega, PySem.Flt.log2_lt_of (by omega) hl⟩
  (repeat walk_at "l3 step")
  · refine r_ite (fun h => ?_) (fun h => ?_)
    · (repeat walk_at "l3 step")
      · refine q _ _ _ (Int.fmod_nonneg_of_pos _ hm) (Int.fmod_lt_of_pos _ hm) ⟨b0.fdiv m, b1, b2, rfl, ?_, h1, by omega, h2, h2c⟩ rfl
        rw [Int.fdiv_eq_ediv_of_nonneg _ (by omega)]
        exact Int.ediv_nonneg h0 (by omega)
      · exact cm _
      · show m ≠ 0; omega
    · have h' : b0 < 1000000000000000000 := by
        have e : ((10 : Int) ^ Int.toNat 18) = 1000000000000000000 := by decide
        omega
      (repeat walk_at "l3 step")
      · have hx := Int.fmod_nonneg_of_pos (((b0 + 7) * 69069 + (b1 + 1) * 40692 + b2) ^ Int.toNat 3) (b := 2147483647) (by omega)
        have hx' := Int.fmod_lt_of_pos (((b0 + 7) * 69069 + (b1 + 1) * 40692 + b2) ^ Int.toNat 3) (b := 2147483647) (by omega)
        refine q _ _ _ (Int.fmod_nonneg_of_pos _ hm) (Int.fmod_lt_of_pos _ hm) ⟨b0, b1 + 1, b2, rfl, h0, by omega, by omega, h2, h2c⟩ rfl
      all_goals first
        | exact div64
        | (show (2147483647 : Int) ≠ 0; omega)
        | (show (2147483399 : Int) ≠ 0; omega)
        | (show m ≠ 0; omega)
        | exact wide_mul (a := 100) (b := 100) (B.of (by omega)) (B.of (by omega)) (by omega) (by omega) (by omega)
        | exact pow3 (B.of (by omega))
        | (refine pow3 (B.of ?_); have hx := Int.fmod_nonneg_of_pos (((b0 + 7) * 69069 + (b1 + 1) * 40692 + b2) ^ Int.toNat 3) (b := 2147483647) (by omega); have hx' := Int.fmod_lt_of_pos (((b0 + 7) * 69069 + (b1 + 1) * 40692 + b2) ^ Int.toNat 3) (b := 2147483647) (by omega); omega)
  · exact ⟨by omega, by decide⟩
theorem cell_true {ns : List Int} {i : Int} (h : 0 ≤ i) {R : Rv → List S → Prop} {Y : Er → List S → Prop} (q : ∀ z fin, R (.d (.int z)) fin) : q_l_cell K Z [.v (.lst (ns.map D.int)), .v (.int i)] R Y := by
  refine r_fn rfl ?_
  unfold w_l_cell
  (repeat walk_at "l3 step")
  refine r_ite (fun hl => ?_) (fun _ => ?_) <;> (repeat walk_at "l3 step")
  · rw [List.length_map] at hl
    obtain ⟨j, rfl⟩ : ∃ j : Nat, i = (j : Int) := ⟨i.toNat, by omega⟩
    have hj : j < ns.length := by omega
    refine r_ix rfl rfl (z := .int ns[j]) ?_ (q _ _)
    unfold atI ixN
    rw [if_pos (by omega), if_pos (by rw [List.length_map]; omega)]
    simp [hj]
  · exact q _ _
theorem box_true {ns : List Int} {i : Int} (h : 0 ≤ i) (h2 : i ≤ 10) {R : Rv → List S → Prop} {Y : Er → List S → Prop} (q : ∀ xs fin, Box 0 xs → R (.l xs) fin) : q_l_box K Z [.v (.lst (ns.map D.int)), .v (.int i)] R Y := by
  refine r_fn rfl ?_
  unfold w_l_box
  (repeat walk_at "l3 step")
  refine cell_true h fun z _ => ?_
  (repeat walk_at "l3 step")
  · refine q _ _ ⟨_, _, _, rfl, ?_, by omega, by omega, by omega, by omega⟩
    split <;> omega
  · exact wide_mul (a := 100) (b := 100) (B.of (by omega)) (B.of (by omega)) (by omega) (by omega) (by omega)
theorem b9000 {x : Int} (h : x.natAbs < 1000000000000000000000000000000000000) : B 9000 x := Nat.lt_of_lt_of_le h (Nat.le_trans (Nat.le_of_ble_eq_true rfl : 1000000000000000000000000000000000000 ≤ 2 ^ 120) (Nat.pow_le_pow_right (by omega) (by omega)))
theorem b120 {x : Int} (h : x.natAbs < 1000000000000000000000000000000000000) : B 120 x := Nat.lt_of_lt_of_le h (Nat.le_of_ble_eq_true rfl)
theorem pick_true {c : Int} {xs : List D} (hb : Box c xs) (hc : c ≤ 999990) {R : Rv → List S → Prop} {Y : Er → List S → Prop}
    (q : ∀ (up dn : Int) (xs' : List D) (fin : List S), up.natAbs ≤ 1000000000000000000000000000000 → dn ≠ 0 → dn.natAbs ≤ 1000000000000000000000000000000 → Box (c + 5) xs' → fin[0]? = some (.ol true xs') → R (.l [.int up, .int dn]) fin) : q_l_pick K Z [.ol true xs] R Y := by
  refine r_fn rfl ?_
  unfold w_l_pick
  (repeat walk_at "l3 step")
  · refine take_true hb (by omega) (by omega) (b9000 (by decide)) fun i xs1 fin h0 h5 hb1 hf => ⟨_, hf, rfl, rfl, ?_⟩
    (repeat walk_at "l3 step")
    obtain ⟨w, hw, w3, wb⟩ : ∃ w : Int, atI [D.int 3, .int 9, .int 60, .int (3 * 10 ^ Int.toNat 8), .int (10 ^ Int.toNat 30)] i = some (.int w) ∧ 3 ≤ w ∧ w ≤ 1000000000000000000000000000000 := by
      have : i = 0 ∨ i = 1 ∨ i = 2 ∨ i = 3 ∨ i = 4 := by omega
      rcases this with rfl | rfl | rfl | rfl | rfl
      · exact ⟨3, rfl, by omega, by omega⟩
      · exact ⟨9, rfl, by omega, by omega⟩
      · exact ⟨60, rfl, by omega, by omega⟩
      · exact ⟨_, rfl, by decide, by decide⟩
      · exact ⟨_, rfl, by decide, by decide⟩
    refine r_ix rfl rfl hw ?_
    (repeat walk_at "l3 step")
    · refine take_true hb1 (by omega) (by omega) (b9000 (by omega)) fun j xs2 fin h0 hj hb2 hf => ⟨_, hf, rfl, rfl, ?_⟩
      (repeat walk_at "l3 step")
      refine take_true hb2 (by omega) (by omega) (b9000 (by omega)) fun t xs3 fin h0' ht hb3 hf => ⟨_, hf, rfl, rfl, ?_⟩
      (repeat walk_at "l3 step")
      refine take_true hb3 (by omega) (by omega) (b9000 (by decide)) fun sg xs4 fin hs0 hs hb4 hf => ⟨_, hf, rfl, rfl, ?_⟩
      (repeat walk_at "l3 step")
      obtain ⟨g, hg, g1⟩ : ∃ g : Int, atI [D.int 1, .int (-1)] sg = some (.int g) ∧ (g = 1 ∨ g = -1) := by
        have : sg = 0 ∨ sg = 1 := by omega
        rcases this with rfl | rfl
        · exact ⟨1, rfl, .inl rfl⟩
        · exact ⟨-1, rfl, .inr rfl⟩
      refine r_ix rfl rfl hg ?_
      have dn : (1 + t) * g ≠ 0 ∧ ((1 + t) * g).natAbs ≤ 1000000000000000000000000000000 := by
        rcases g1 with rfl | rfl <;> omega
      (repeat walk_at "l3 step")
      · refine take_true hb4 (by omega) (by omega) (b9000 (by decide)) fun pk xs5 fin hp0 hp hb5 hf => ⟨_, hf, rfl, rfl, ?_⟩
        (repeat walk_at "l3 step")
        obtain ⟨v, hv, v1, v2⟩ : ∃ v : Int, atI [D.int ((1 + t) * g), .int 1, .int 1] pk = some (.int v) ∧ v ≠ 0 ∧ v.natAbs ≤ 1000000000000000000000000000000 := by
          have : pk = 0 ∨ pk = 1 ∨ pk = 2 := by omega
          rcases this with rfl | rfl | rfl
          · exact ⟨_, rfl, dn.1, dn.2⟩
          · exact ⟨1, rfl, by omega, by omega⟩
          · exact ⟨1, rfl, by omega, by omega⟩
        refine r_ix rfl rfl hv ?_
        (repeat walk_at "l3 step")
        have e : c + 1 + 1 + 1 + 1 + 1 = c + 5 := by omega
        rw [e] at hb5
        exact q _ _ xs5 _ (by omega) v1 v2 hb5 rfl
      · refine wide_mul (a := 120) (b := 120) (b120 (by omega)) (b120 ?_) (by omega) (by omega) (by omega)
        rcases g1 with rfl | rfl <;> decide
    · exact wide_mul (a := 120) (b := 120) (b120 (by decide)) (b120 (by omega)) (by omega) (by omega) (by omega)
  · exact ⟨by omega, by decide⟩
  · exact wide_mul (a := 120) (b := 120) (b120 (by decide)) (b120 (by decide)) (by omega) (by omega) (by omega)
  · exact ⟨by omega, by decide⟩
end
end K02

set_option Elab.async false
set_option linter.all false
set_option maxRecDepth 100000
set_option maxHeartbeats 1000000
namespace K02
open PySem L2 L3
section
variable {K : PySem.W.Frag} {mg : Str → Option Value} {Z : Ad}
def Nums (Z : Ad) (k : Nat) : List D → List (Int × Int) → Prop
  | [], [] => True
  | d :: ds, p :: ps => Num Z d p ∧ Rt k p ∧ Nums Z k ds ps
  | _, _ => False
theorem nums_of {k : Nat} : ∀ {ds : List D} {ps : List (Int × Int)}, Nums Z k ds ps → ds.length = ps.length ∧ ∀ (i : Nat) (d : D) (p : Int × Int), ds[i]? = some d → ps[i]? = some p → Num Z d p ∧ Rt k p
  | [], [], _ => ⟨rfl, fun i d p h => by cases h⟩
  | [], _ :: _, h => h.elim
  | _ :: _, [], h => h.elim
  | d :: ds, p :: ps, h => by
    obtain ⟨h1, h2, h3⟩ := h
    obtain ⟨l, f⟩ := nums_of h3
    refine ⟨congrArg Nat.succ l, fun i d' p' e1 e2 => ?_⟩
    cases i with
    | zero => cases e1; cases e2; exact ⟨h1, h2⟩
    | succ i => exact f i d' p' e1 e2
theorem tot_vl {k : Nat} : ∀ (ps : List (Int × Int)) (s : Int × Int) (k : Nat), (∀ p ∈ ps, Rt k p) → Rt k s → (k + 1) * 2 ^ ps.length ≤ 4001 → Rt 4000 (tot s ps) ∧ vl (tot s ps) = ps.foldl (fun v p => v + vl p) (vl s)
  | [], s, k, _, hs, hk => ⟨hs.mono (by
      have e : (k + 1) * 2 ^ ([] : List (Int × Int)).length = k + 1 := by simp
      omega), rfl⟩
  | p :: ps, s, k, hp, hs, hk => by
    have h1 := hp p List.mem_cons_self
    have e : (k + k + 1 + 1) * 2 ^ ps.length = (k + 1) * 2 ^ (p :: ps).length := by
      rw [List.length_cons, Nat.pow_succ]; generalize 2 ^ ps.length = z; grind
    obtain ⟨a, b⟩ := tot_vl (k := 0) ps (pl s p) (k + k + 1) (fun p' h' => (hp p' (List.mem_cons_of_mem _ h')).mono (by omega)) (pl_rt hs h1) (by rw [e]; exact hk)
    refine ⟨a, ?_⟩
    show vl (tot (pl s p) ps) = _
    rw [b, List.foldl_cons, vl_pl hs h1]
theorem total_is (T : Txt K mg Z) {ds : List D} {ps : List (Int × Int)} {k : Nat} (h : Nums Z k ds ps) (h1 : 1 ≤ k) (hk : (k + 1) * 2 ^ ds.length ≤ 4001) {R : Rv → List S → Prop} {Y : Er → List S → Prop} (q : ∀ fin, R (.d (ra Z (tot (0, 1) ps))) fin) : q_total K Z [.v (.lst ds)] R Y :=
  total_true T (nums_of h).1 (nums_of h).2 h1 hk q
theorem vl_one (n : Int) : vl (n, 1) = (n : Rat) := by
  show (n : Rat) / ((1 : Int) : Rat) = n
  rw [show ((1 : Int) : Rat) = 1 from rfl]
  grind
theorem due_true {x y : Int × Int} {n : Int} {E : DE} (hx : Rt 120 x) (h1 : Rt 120 (n, 1)) (q : E.nx [.v (ra Z x), .v (ra Z y), .v (pr x), .v (.int n), .v (.lst [ra Z (lw x (n, 1)), ra Z (hi x (n, 1))]), .no]) :
    wSet 4 (wLst (wCons (wIf (wTru (wCall (q_l_less K Z) [] (wCons (wVar 2) (wCons (wTup (wCons (wVar 3) (wCons (wC (.int 1)) wNil))) wNil)))) (wVar 0) (wMake Z.C_Ratio (q_Ratio_init K Z) [D.int 1] (wCons (wVar 3) wNil))) (wCons (wIf (wTru (wCall (q_l_less K Z) [] (wCons (wVar 2) (wCons (wTup (wCons (wVar 3) (wCons (wC (.int 1)) wNil))) wNil)))) (wMake Z.C_Ratio (q_Ratio_init K Z) [D.int 1] (wCons (wVar 3) wNil)) (wVar 0)) wNil)))
      [.v (ra Z x), .v (ra Z y), .v (pr x), .v (.int n), .no, .no] E := by
  by_cases h : cr x (n, 1) < 0
  · unfold lw hi at q
    rw [if_pos h, if_pos h] at q
    (repeat walk_at "l3 step")
    refine less_true (y := (n, 1)) hx h1 (by omega) fun _ => ?_
    (repeat walk_at "l3 step")
    refine r_ite (fun _ => ?_) (fun h' => absurd h h')
    (repeat walk_at "l3 step")
    refine less_true (y := (n, 1)) hx h1 (by omega) fun _ => ?_
    (repeat walk_at "l3 step")
    refine r_ite (fun _ => ?_) (fun h' => absurd h h')
    (repeat walk_at "l3 step")
    refine init_int fun fin hf => ⟨_, _, hf, ?_⟩
    (repeat walk_at "l3 step")
    exact q
  · unfold lw hi at q
    rw [if_neg h, if_neg h] at q
    (repeat walk_at "l3 step")
    refine less_true (y := (n, 1)) hx h1 (by omega) fun _ => ?_
    (repeat walk_at "l3 step")
    refine r_ite (fun h' => absurd h' h) (fun _ => ?_)
    (repeat walk_at "l3 step")
    refine init_int fun fin hf => ⟨_, _, hf, ?_⟩
    (repeat walk_at "l3 step")
    refine less_true (y := (n, 1)) hx h1 (by omega) fun _ => ?_
    (repeat walk_at "l3 step")
    refine r_ite (fun h' => absurd h' h) (fun _ => ?_)
    (repeat walk_at "l3 step")
    exact q
theorem lc_ra (T : Txt K mg Z) {δ0 : List S} {Q : List D → List S → Prop} : ∀ (ps : List (Int × Int)) (δ : List S), 2 < δ.length → δ[2]? = some S.no → (∀ δ', δ' = δ → Q [] (backS δ0 [2] δ')) → lcD (wgName 2) (wNotT (wTru (wCB (zIsi K) (wCons (wVar 2) (wCons (wC (.adr Z.C_Ratio)) wNil))))) wNo [2] δ0 Q (ps.map (ra Z)) [] δ
  | [], δ, _, _, q => q δ rfl
  | p :: ps, δ, hl, hn, q => by
    have h2 : (δ.set 2 (.v (ra Z p)))[2]? = some (.v (ra Z p)) := by rw [List.getElem?_set_self hl]
    rw [List.map_cons, lcD]
    unfold wgName
    dsimp only
    refine r_notT (r_tru (r_cb (r_cons (r_var h2 (r_cons (r_c (r_nil ?_)))))))
    refine ⟨_, rfl, ?_⟩
    refine r_isi rfl rfl T.isi_Ratio T.kit_Ratio_Ratio ?_
    refine ⟨true, rfl, ?_⟩
    show if (!true) = true then _ else _
    rw [if_neg (by decide)]
    have e : wipeS (δ.set 2 (.v (ra Z p))) [2] = δ := by
      apply List.ext_getElem?
      intro j
      rw [wipeS_get]
      by_cases hj : j = 2
      · subst hj
        rw [if_pos (by simp), h2, hn]
        rfl
      · rw [if_neg (by simp [hj]), List.getElem?_set_ne (fun z => hj z.symm)]
    refine ⟨?_, ?_⟩
    · apply List.ext_getElem?
      intro j
      rw [List.getElem?_map, List.getElem?_map]
      by_cases hj : j = 2
      · subst hj
        rw [h2, hn]
        rfl
      · rw [List.getElem?_set_ne (fun z => hj z.symm)]
    · rw [e]
      exact lc_ra T ps δ hl hn q
theorem chosen_true (T : Txt K mg Z) {x y : Int × Int} {n : Int} (hx : Rt 120 x) (hy : Rt 120 y) (hn : B 118 n) {R : Rv → List S → Prop} {Y : Er → List S → Prop} (q : ∀ fin, R (.d (.bl true)) fin) : q_l_chosen K Z [.v (ra Z x), .v (ra Z y), .v (pr x), .v (.int n)] R Y := by
  have h1 : Rt 120 (n, 1) := rt_int (hn.mono (by omega)) (by omega)
  have b1 : B 120 1 := by unfold B; exact Nat.one_lt_two_pow (by omega)
  have h2 : Rt 120 (n + 1, 1) := rt_int (((hn.mono (by omega : 118 ≤ 119)).add (by unfold B; exact Nat.one_lt_two_pow (by omega))).mono (by omega)) (by omega)
  have h3 : Rt 120 (3, 1) := rt_int (by unfold B; exact Nat.lt_of_lt_of_le (by decide : 3 < 2 ^ 2) (Nat.pow_le_pow_right (by omega) (by omega))) (by omega)
  have hl := lw_rt hx h1
  have hh := hi_rt hx h1
  refine r_fn rfl ?_
  unfold w_l_chosen
  refine r_seq ?_
  simp only [List.replicate_succ, List.replicate_zero, List.cons_append, List.nil_append]
  refine due_true hx h1 ?_
  (repeat walk_at "l3 step")
  refine init_int fun fin hf => ⟨_, _, hf, ?_⟩
  (repeat walk_at "l3 step")
  refine u_ne (p := (n, 1)) T h1 h1 (Num.int n) (by omega) rfl ?_
  (repeat walk_at "l3 step")
  refine lesser_true (r := (n, 1)) T hx h1 (Num.own x) (Num.int n) (by omega) fun _ => ?_
  (repeat walk_at "l3 step")
  refine u_ne T hl hl (Num.own _) (by omega) rfl ?_
  (repeat walk_at "l3 step")
  refine greater_true (p := (n, 1)) T h1 hx (Num.int n) (Num.own x) (by omega) fun _ => ?_
  (repeat walk_at "l3 step")
  refine u_ne T (hi_rt h1 hx) hh (Num.own _) (by omega) (hi_comm hx h1) ?_
  (repeat walk_at "l3 step")
  refine lesser_true (p := (n, 1)) T h1 hx (Num.int n) (Num.own x) (by omega) fun _ => ?_
  (repeat walk_at "l3 step")
  refine u_ne T (lw_rt h1 hx) hl (Num.own _) (by omega) (lw_comm hx h1) ?_
  (repeat walk_at "l3 step")
  refine greater_true (r := (n, 1)) T hx h1 (Num.own x) (Num.int n) (by omega) fun _ => ?_
  (repeat walk_at "l3 step")
  refine u_ne T hh hh (Num.own _) (by omega) rfl ?_
  (repeat walk_at "l3 step")
  refine lesser_true (p := (n, 1)) (r := (n, 1)) T h1 h1 (Num.int n) (Num.int n) (by omega) fun _ => ?_
  (repeat walk_at "l3 step")
  refine greater_true (p := (n, 1)) (r := (n, 1)) T h1 h1 (Num.int n) (Num.int n) (by omega) fun _ => ?_
  (repeat walk_at "l3 step")
  refine lesser_true (p := (n, 1)) (r := (n + 1, 1)) T h1 h2 (Num.int n) (Num.int _) (by omega) fun _ => ?_
  (repeat walk_at "l3 step")
  refine greater_true (p := (n + 1, 1)) (r := (n, 1)) T h2 h1 (Num.int _) (Num.int n) (by omega) fun _ => ?_
  (repeat walk_at "l3 step")
  refine total_is (ds := []) (ps := []) (k := 120) T trivial (by omega) (by decide) fun _ => ?_
  (repeat walk_at "l3 step")
  refine total_is (ds := [.int n, .int 3]) (ps := [(n, 1), (3, 1)]) (k := 120) T ⟨Num.int n, h1, Num.int 3, h3, trivial⟩ (by omega) (Nat.le_of_ble_eq_true rfl) fun _ => ?_
  (repeat walk_at "l3 step")
  refine ⟨_, _, rfl, rfl, ?_⟩
  refine ⟨fun v hv s hs => ?_, ?_⟩
  · have e : v = 2 := List.mem_singleton.mp hv
    subst e
    cases hs
    rfl
  refine lc_ra T [lw (n, 1) (n, 1), hi (n, 1) (n, 1), lw (n, 1) (n + 1, 1), hi (n + 1, 1) (n, 1), tot (0, 1) [], tot (0, 1) [(n, 1), (3, 1)]] _ (Nat.le_of_ble_eq_true rfl) rfl fun δ' hδ => ?_
  subst hδ
  show wLst wNil [.v (ra Z x), .v (ra Z y), .v (pr x), .v (.int n), .v (.lst [ra Z (lw x (n, 1)), ra Z (hi x (n, 1))]), .v (.lst [ra Z (lw (n, 1) (n, 1)), ra Z (hi (n, 1) (n, 1)), ra Z (lw (n, 1) (n + 1, 1)), ra Z (hi (n + 1, 1) (n, 1)), ra Z (tot (0, 1) []), ra Z (tot (0, 1) [(n, 1), (3, 1)])])] _ _
  (repeat walk_at "l3 step")
  refine u_neN ?_
  (repeat walk_at "l3 step")
  refine total_is (ds := [ra Z x, .int n, ra Z y, .int n]) (ps := [x, (n, 1), y, (n, 1)]) (k := 120) T ⟨Num.own x, hx, Num.int n, h1, Num.own y, hy, Num.int n, h1, trivial⟩ (by omega) (Nat.le_of_ble_eq_true rfl) fun _ => ?_
  (repeat walk_at "l3 step")
  refine u_add T hx hy (Num.own y) (by omega) ?_
  (repeat walk_at "l3 step")
  · have h22 : Rt 241 (2 * n, 1) := rt_int ((B.mul (j := 2) (k := 118) (by unfold B; decide) hn).mono (by omega)) (by omega)
    refine u_add (r := (2 * n, 1)) T (pl_rt hx hy) h22 (Num.int _) (by omega) ?_
    have z0 : Rt 120 ((0 : Int), (1 : Int)) := rt_int (by unfold B; exact Nat.two_pow_pos _) (by omega)
    have hm : ∀ p ∈ [x, (n, 1), y, (n, 1)], Rt 120 p := fun p hp => by
      simp at hp
      rcases hp with rfl | rfl | rfl | rfl <;> assumption
    obtain ⟨r1, r2⟩ := tot_vl (k := 0) [x, (n, 1), y, (n, 1)] (0, 1) 120 hm z0 (Nat.le_of_ble_eq_true rfl)
    have r3 := pl_rt (pl_rt hx hy) h22
    have ev : tot (0, 1) [x, (n, 1), y, (n, 1)] = pl (pl x y) (2 * n, 1) := by
      refine vl_eq r1 r3 ?_
      rw [r2, vl_pl (pl_rt hx hy) h22, vl_pl hx hy]
      simp only [List.foldl_cons, List.foldl_nil, vl_one, Rat.intCast_mul]
      have e0 : ((0 : Int) : Rat) = 0 := rfl
      have e2 : ((2 : Int) : Rat) = 2 := rfl
      rw [e0, e2]
      grind
    refine u_eq T r1 (r3.mono (by omega)) (Num.own _) (by omega) ?_
    rw [cr_zero r1 r3, decide_eq_true ev]
    (repeat walk_at "l3 step")
    refine total_is (ds := []) (ps := []) (k := 120) T trivial (by omega) (by decide) fun _ => ?_
    (repeat walk_at "l3 step")
    refine u_eq (p := (0, 1)) (r := (0, 1)) T z0 z0 (Num.int 0) (by omega) ?_
    rw [cr_zero z0 z0, decide_eq_true rfl]
    exact q _
  · exact B.mulW (j := 2) (k := 118) (by unfold B; decide) hn (by omega)
end
end K02

set_option Elab.async false
set_option linter.all false
set_option maxRecDepth 100000
set_option maxHeartbeats 4000000
namespace K02
open PySem L2 L3
section
variable {K : PySem.W.Frag} {mg : Str → Option Value} {Z : Ad}
def body (K : PySem.W.Frag) (Z : Ad) : Ws := (wSeq (wSetL 2 (wCallL (q_l_box K Z) [] (wCons (wVar 0) (wCons (wVar 1) wNil))))
    (wSeq (wSet 3 (wCallB 2 (q_l_pick K Z) [] wNil))
    (wSeq (wSet 4 (wIf (wTst (wOp (oEqD) (wCallB 2 (q_l_take K Z) [] (wCons (wC (.int 5)) wNil)) (wC (.int 0)))) (wLst (wCons (wOp (oI CMulW fun i j => .int (i * j)) (wOp oIx (wVar 3) (wC (.int 0))) (wC (.int 3))) (wCons (wOp (oI CMulW fun i j => .int (i * j)) (wOp oIx (wVar 3) (wC (.int 1))) (wC (.int 3))) wNil))) (wCallB 2 (q_l_pick K Z) [] wNil)))
    (wSeq (wSet 5 (wCall (q_l_frac K Z) [] (wCons (wOp oIx (wVar 3) (wC (.int 0))) (wCons (wOp oIx (wVar 3) (wC (.int 1))) wNil))))
    (wSeq (wSet 6 (wCall (q_l_frac K Z) [] (wCons (wOp oIx (wVar 4) (wC (.int 0))) (wCons (wOp oIx (wVar 4) (wC (.int 1))) wNil))))
    (wSeq (wSet 7 (wMake Z.C_Ratio (q_Ratio_init K Z) [] (wCons (wOp oIx (wVar 3) (wC (.int 0))) (wCons (wOp oIx (wVar 3) (wC (.int 1))) wNil))))
    (wSeq (wSet 8 (wMakeW Z.C_Ratio (q_Ratio_init K Z) pSwap 2 (wCons (wOp oIx (wVar 4) (wC (.int 1))) (wCons (wOp oIx (wVar 4) (wC (.int 0))) wNil))))
    (wSeq (wIfS (wOrT (wNotT (wTru (wCall (q_l_is K Z) [] (wCons (wVar 7) (wCons (wVar 5) wNil))))) (wOrT (wNotT (wTru (wCall (q_l_is K Z) [] (wCons (wVar 8) (wCons (wVar 6) wNil))))) (wNotT (wTru (wCall (q_l_is K Z) [] (wCons (wUn (oOwn1 Z.C_Ratio (q_Ratio_neg K Z)) (wVar 7)) (wCons (wCall (q_l_frac K Z) [] (wCons (wOp (oI CT fun i j => .int (i - j)) (wC (.int 0)) (wOp oIx (wVar 5) (wC (.int 0)))) (wCons (wOp oIx (wVar 5) (wC (.int 1))) wNil))) wNil))))))) wOff wNx)
    (wSeq (wSet 9 (wLst (wCons (wCall (q_l_is K Z) [] (wCons (wOp (oOwn Z.C_Ratio (q_Ratio_add K Z) (okBin Z.C_Ratio)) (wVar 7) (wVar 8)) (wCons (wCall (q_l_plus K Z) [] (wCons (wVar 5) (wCons (wVar 6) wNil))) wNil))) (wCons (wCall (q_l_is K Z) [] (wCons (wOp (oOwn Z.C_Ratio (q_Ratio_sub K Z) (okBin Z.C_Ratio)) (wVar 7) (wVar 8)) (wCons (wCall (q_l_minus K Z) [] (wCons (wVar 5) (wCons (wVar 6) wNil))) wNil))) wNil))))
    (wSeq (wIfS (wOrT (wTst (wOp (oNeD) (wVar 9) (wLst (wCons (wC (.bl true)) (wCons (wC (.bl true)) wNil))))) (wOrT (wNotT (wTru (wCall (q_l_is K Z) [] (wCons (wOp (oOwn Z.C_Ratio (q_Ratio_mul K Z) (okBin Z.C_Ratio)) (wVar 7) (wVar 8)) (wCons (wCall (q_l_times K Z) [] (wCons (wVar 5) (wCons (wVar 6) wNil))) wNil))))) (wNotT (wTru (wCall (q_l_compared K Z) [] (wCons (wVar 7) (wCons (wVar 8) (wCons (wVar 5) (wCons (wVar 6) wNil))))))))) wOff wNx)
    (wSeq (wIfS (wAndT (wTst (wOp (oNeD) (wOp oIx (wVar 6) (wC (.int 0))) (wC (.int 0)))) (wNotT (wTru (wCall (q_l_is K Z) [] (wCons (wMeth Z.C_Ratio "over" (q_Ratio_over K Z) [] (wVar 7) (wCons (wVar 8) wNil)) (wCons (wCall (q_l_times K Z) [] (wCons (wVar 5) (wCons (wCall (q_l_frac K Z) [] (wCons (wOp oIx (wVar 6) (wC (.int 1))) (wCons (wOp oIx (wVar 6) (wC (.int 0))) wNil))) wNil))) wNil)))))) wOff wNx)
    (wSeq (wSet 10 (wIf (wTst (wOp (oEqD) (wCallB 2 (q_l_take K Z) [] (wCons (wC (.int 4)) wNil)) (wC (.int 0)))) (wOp oIx (wVar 3) (wC (.int 0))) (wOp (oI CT fun i j => .int (i - j)) (wCallB 2 (q_l_take K Z) [] (wCons (wC (.int 2001)) wNil)) (wC (.int 1000)))))
    (wSeq (wSet 9 (wLst (wCons (wCall (q_l_is K Z) [] (wCons (wOp (oOwn Z.C_Ratio (q_Ratio_add K Z) (okBin Z.C_Ratio)) (wVar 7) (wVar 10)) (wCons (wCall (q_l_plus K Z) [] (wCons (wVar 5) (wCons (wTup (wCons (wVar 10) (wCons (wC (.int 1)) wNil))) wNil))) wNil))) (wCons (wCall (q_l_is K Z) [] (wCons (wOp (oOwn Z.C_Ratio (q_Ratio_sub K Z) (okBin Z.C_Ratio)) (wVar 7) (wVar 10)) (wCons (wCall (q_l_minus K Z) [] (wCons (wVar 5) (wCons (wTup (wCons (wVar 10) (wCons (wC (.int 1)) wNil))) wNil))) wNil))) wNil))))
    (wSeq (wIfS (wOrT (wTst (wOp (oNeD) (wVar 9) (wLst (wCons (wC (.bl true)) (wCons (wC (.bl true)) wNil))))) (wOrT (wNotT (wTru (wCall (q_l_is K Z) [] (wCons (wOp (oOwn Z.C_Ratio (q_Ratio_mul K Z) (okBin Z.C_Ratio)) (wVar 7) (wVar 10)) (wCons (wCall (q_l_times K Z) [] (wCons (wVar 5) (wCons (wTup (wCons (wVar 10) (wCons (wC (.int 1)) wNil))) wNil))) wNil))))) (wNotT (wTru (wCall (q_l_compared K Z) [] (wCons (wVar 7) (wCons (wVar 10) (wCons (wVar 5) (wCons (wTup (wCons (wVar 10) (wCons (wC (.int 1)) wNil))) wNil))))))))) wOff wNx)
    (wSeq (wIfS (wAndT (wTst (wOp (oNeD) (wVar 10) (wC (.int 0)))) (wNotT (wTru (wCall (q_l_is K Z) [] (wCons (wMethW Z.C_Ratio "over" (q_Ratio_over K Z) pId 1 (wVar 7) (wCons (wVar 10) wNil)) (wCons (wCall (q_l_times K Z) [] (wCons (wVar 5) (wCons (wCall (q_l_frac K Z) [] (wCons (wC (.int 1)) (wCons (wVar 10) wNil))) wNil))) wNil)))))) wOff wNx)
    (wSeq (wIfS (wOrT (wNotT (wTru (wCall (q_l_is K Z) [] (wCons (wCall (q_as_ratio K Z) [] (wCons (wVar 7) wNil)) (wCons (wVar 5) wNil))))) (wOrT (wNotT (wTru (wCall (q_l_is K Z) [] (wCons (wCallW (q_as_ratio K Z) pId 1 (wCons (wVar 10) wNil)) (wCons (wTup (wCons (wVar 10) (wCons (wC (.int 1)) wNil))) wNil))))) (wNotT (wTru (wCall (q_l_chosen K Z) [] (wCons (wVar 7) (wCons (wVar 8) (wCons (wVar 5) (wCons (wVar 10) wNil))))))))) wOff wNx)
    (wSeq (wSet 11 (wOp oIx (wLst (wCons (wC (.bl true)) (wCons (wC (.bl false)) (wCons (wC .non) (wCons (wC (.str "1")) (wCons (wLst (wCons (wC (.int 1)) wNil)) (wCons (wTup (wCons (wC (.int 2)) (wCons (wC (.int 1)) wNil))) (wCons (wC (.dk [] [])) wNil)))))))) (wCallB 2 (q_l_take K Z) [] (wCons (wC (.int 7)) wNil))))
    (wIfS (wOrT (wTst (wOp (oOwn Z.C_Ratio (q_Ratio_eq K Z) (okCmp K Z.C_Ratio)) (wMake Z.C_Ratio (q_Ratio_init K Z) [D.int 1] (wCons (wC (.int 1)) wNil)) (wVar 11))) (wOrT (wTst (wOp (oOwn Z.C_Ratio (q_Ratio_eq K Z) (okCmp K Z.C_Ratio)) (wMake Z.C_Ratio (q_Ratio_init K Z) [D.int 1] (wCons (wC (.int 0)) wNil)) (wVar 11))) (wOrT (wNotT (wTru (wCall (q_l_refused K Z) [] (wCons (wVar 11) wNil)))) (wNotT (wTru (wCall (q_l_zero K Z) [] (wCons (wVar 7) (wCons (wOp oIx (wLst (wCons (wC (.int 0)) (wCons (wMake Z.C_Ratio (q_Ratio_init K Z) [D.int 1] (wCons (wC (.int 0)) wNil)) wNil))) (wOp (oI (fun _ j => j ≠ 0) fun i j => .int (i.fmod j)) (wVar 1) (wC (.int 2)))) wNil)))))))) wOff wNx))))))))))))))))))
theorem u_neI {a b : Int} {P : D → Prop} (q : P (.bl (!decide (a = b)))) : oNeD (.int a) (.int b) P := ⟨.int a, .int b, rfl, rfl, rfl, rfl, by rw [eqv_ii]; exact q⟩
theorem second_if {Pr : Prop} [Decidable Pr] {c up dn : Int} {xs : List D} {a0 a1 a4 a5 a6 a7 a8 a9 a10 a11 : S} {Q : D → List S → Prop} {Y : Er → List S → Prop} (hb : Box c xs) (hc : c ≤ 999900) (hu : up.natAbs ≤ 1000000000000000000000000000000) (hd0 : dn ≠ 0) (hd : dn.natAbs ≤ 1000000000000000000000000000000)
    (q : ∀ (u d : Int) (xs' : List D), u.natAbs ≤ 3000000000000000000000000000000 → d ≠ 0 → d.natAbs ≤ 3000000000000000000000000000000 → Box (c + 5) xs' → Q (.lst [.int u, .int d]) [a0, a1, .ol false xs', .v (.lst [.int up, .int dn]), a4, a5, a6, a7, a8, a9, a10, a11]) :
    if decide Pr = true then (wLst (wCons (wOp (oI CMulW fun i j => .int (i * j)) (wOp oIx (wVar 3) (wC (.int 0))) (wC (.int 3))) (wCons (wOp (oI CMulW fun i j => .int (i * j)) (wOp oIx (wVar 3) (wC (.int 1))) (wC (.int 3))) wNil))) [a0, a1, .ol false xs, .v (.lst [.int up, .int dn]), a4, a5, a6, a7, a8, a9, a10, a11] Q Y else (wCallB 2 (q_l_pick K Z) [] wNil) [a0, a1, .ol false xs, .v (.lst [.int up, .int dn]), a4, a5, a6, a7, a8, a9, a10, a11] Q Y := by
  refine r_ite (fun _ => ?_) (fun _ => ?_)
  · (repeat walk_at "l3 step")
    · refine q _ _ xs (by omega) (by omega) (by omega) ?_
      obtain ⟨b0, b1, b2, rfl, e1, e2, e3, e4, e5⟩ := hb
      exact ⟨b0, b1, b2, rfl, e1, e2, by omega, e4, e5⟩
    · exact wide_mul (a := 120) (b := 120) (b120 (by omega)) (b120 (by decide)) (by omega) (by omega) (by omega)
    · exact wide_mul (a := 120) (b := 120) (b120 (by omega)) (b120 (by decide)) (by omega) (by omega) (by omega)
  · (repeat walk_at "l3 step")
    refine pick_true hb (by omega) fun u d xs1 fin h1 h2 h3 h4 hf => ⟨_, hf, rfl, rfl, ?_⟩
    (repeat walk_at "l3 step")
    exact q u d xs1 (by omega) h2 (by omega) h4
theorem n_if {Pr : Prop} [Decidable Pr] {c up dn : Int} {xs : List D} {a0 a1 a4 a5 a6 a7 a8 a9 a10 a11 : S} {Q : D → List S → Prop} {Y : Er → List S → Prop} (hb : Box c xs) (hc : c ≤ 999900) (hu : up.natAbs ≤ 1000000000000000000000000000000)
    (q : ∀ (n : Int) (xs' : List D), n.natAbs ≤ 1000000000000000000000000000000 → Box (c + 1) xs' → Q (.int n) [a0, a1, .ol false xs', .v (.lst [.int up, .int dn]), a4, a5, a6, a7, a8, a9, a10, a11]) :
    if decide Pr = true then (wOp oIx (wVar 3) (wC (.int 0))) [a0, a1, .ol false xs, .v (.lst [.int up, .int dn]), a4, a5, a6, a7, a8, a9, a10, a11] Q Y else (wOp (oI CT fun i j => .int (i - j)) (wCallB 2 (q_l_take K Z) [] (wCons (wC (.int 2001)) wNil)) (wC (.int 1000))) [a0, a1, .ol false xs, .v (.lst [.int up, .int dn]), a4, a5, a6, a7, a8, a9, a10, a11] Q Y := by
  refine r_ite (fun _ => ?_) (fun _ => ?_)
  · (repeat walk_at "l3 step")
    refine q _ xs (by omega) ?_
    obtain ⟨b0, b1, b2, rfl, e1, e2, e3, e4, e5⟩ := hb
    exact ⟨b0, b1, b2, rfl, e1, e2, by omega, e4, e5⟩
  · (repeat walk_at "l3 step")
    refine take_true hb (by omega) (by omega) (b9000 (by decide)) fun i xs1 fin h1 h2 h4 hf => ⟨_, hf, rfl, rfl, ?_⟩
    (repeat walk_at "l3 step")
    exact q _ xs1 (by omega) h4
theorem b118 {x : Int} (h : x.natAbs < 100000000000000000000000000000000000) : B 118 x := Nat.lt_of_lt_of_le h (Nat.le_of_ble_eq_true rfl)
theorem over_eq {j k : Nat} {x y : Int × Int} (hx : Rt j x) (hy : Rt k y) (h0 : y.1 ≠ 0) : nm (x.1 * y.2) (x.2 * y.1) = ti x (nm y.2 y.1) := by
  have hj := hx.mono (Nat.le_add_right j k)
  have hk := hy.mono (Nat.le_add_left k j)
  have hf := nm_rt h0 hk.b2 hk.b1
  have c := nm_cross (a := y.2) h0
  have hb1 : x.2 * y.1 ≠ 0 := Int.mul_ne_zero (by have := hx.pos; omega) h0
  have hb2 := bot_ne hx hf
  unfold ti
  refine vl_eq (nm_rt hb1 (hj.b1.mul hk.b2) (hj.b2.mul hk.b1)) (nm_rt hb2 (hj.b1.mul hf.b1) (hj.b2.mul hf.b2)) ?_
  rw [vl_nm hb1, vl_nm hb2]
  have k1 := cast_ne (show x.2 ≠ 0 by have := hx.pos; omega)
  have k2 := cast_ne h0
  have k3 := cast_ne (show (nm y.2 y.1).2 ≠ 0 by have := hf.pos; omega)
  have c' : ((nm y.2 y.1).1 : Rat) * (y.1 : Rat) = (y.2 : Rat) * ((nm y.2 y.1).2 : Rat) := by
    rw [← Rat.intCast_mul, ← Rat.intCast_mul, c]
  simp only [Rat.intCast_mul]
  grind
end
end K02

set_option Elab.async false
set_option linter.all false
set_option maxRecDepth 100000
set_option maxHeartbeats 4000000
namespace K02
open PySem L2 L3
section
variable {K : PySem.W.Frag} {mg : Str → Option Value} {Z : Ad}
/-- one turn of the law's loop -/
theorem turn_true (T : Txt K mg Z) {ns : List Int} {k : Int} (hk0 : 0 ≤ k) (hk1 : k ≤ 10) {a2 a3 a4 a5 a6 a7 a8 a9 a10 a11 : S} {E : DE}
    (q : ∀ b2 b3 b4 b5 b6 b7 b8 b9 b10 b11 : S, E.nx [.v (.lst (ns.map D.int)), .v (.int k), b2, b3, b4, b5, b6, b7, b8, b9, b10, b11]) :
    body K Z [.v (.lst (ns.map D.int)), .v (.int k), a2, a3, a4, a5, a6, a7, a8, a9, a10, a11] E := by
  unfold body
  (repeat walk_at "l3 step")
  refine box_true hk0 hk1 fun xs fin hb => ⟨xs, rfl, ?_⟩
  (repeat walk_at "l3 step")
  refine pick_true hb (by omega) fun up dn xs1 fin hu hd0 hd hb1 hf => ⟨_, hf, rfl, rfl, ?_⟩
  (repeat walk_at "l3 step")
  refine take_true hb1 (by omega) (by omega) (b9000 (by decide)) fun i xs2 fin _ _ hb2 hf => ⟨_, hf, rfl, rfl, ?_⟩
  (repeat walk_at "l3 step")
  refine second_if hb2 (by omega) hu hd0 hd fun up2 dn2 xs3 hu2 hd20 hd2 hb3 => ?_
  have hx := nm_rt (k := 118) hd0 (b118 (by omega)) (b118 (by omega) : B 118 dn) (a := up)
  have hy := nm_rt (k := 118) hd20 (b118 (by omega)) (b118 (by omega) : B 118 dn2) (a := up2)
  (repeat walk_at "l3 step")
  refine frac_true hd0 (b9000 (by omega)) fun _ => ?_
  (repeat walk_at "l3 step")
  refine frac_true hd20 (b9000 (by omega)) fun _ => ?_
  (repeat walk_at "l3 step")
  refine init_true hd0 (b9000 (by omega)) fun fin hf => ⟨_, _, hf, ?_⟩
  (repeat walk_at "l3 step")
  refine init_true (a := up2) (b := dn2) hd20 (b9000 (by omega)) fun fin hf => ⟨_, _, hf, ?_⟩
  generalize hxe : nm up dn = x at hx ⊢
  generalize hye : nm up2 dn2 = y at hy ⊢
  (repeat walk_at "l3 step")
  refine is_true (x := x) T rfl fun _ => ?_
  (repeat walk_at "l3 step")
  refine is_true (x := y) T rfl fun _ => ?_
  (repeat walk_at "l3 step")
  refine u_neg hx (by omega) ?_
  (repeat walk_at "l3 step")
  refine frac_true (by have := hx.pos; omega) (hx.b2.mono (by omega)) fun _ => ?_
  (repeat walk_at "l3 step")
  refine is_true (x := nm (-x.1) x.2) (y := nm (0 - x.1) x.2) T (by rw [Int.zero_sub]) fun _ => ?_
  (repeat walk_at "l3 step")
  refine u_add T hx hy (Num.own y) (by omega) ?_
  (repeat walk_at "l3 step")
  refine plus_true hx hy (by omega) fun _ => ?_
  (repeat walk_at "l3 step")
  refine is_true T rfl fun _ => ?_
  (repeat walk_at "l3 step")
  refine u_sub T hx hy (Num.own y) (by omega) ?_
  (repeat walk_at "l3 step")
  refine minus_true hx hy (by omega) fun _ => ?_
  (repeat walk_at "l3 step")
  refine is_true T rfl fun _ => ?_
  (repeat walk_at "l3 step")
  refine u_neTT ?_
  (repeat walk_at "l3 step")
  refine u_mul T hx hy (Num.own y) (by omega) ?_
  (repeat walk_at "l3 step")
  refine times_true hx hy (by omega) fun _ => ?_
  (repeat walk_at "l3 step")
  refine is_true T rfl fun _ => ?_
  (repeat walk_at "l3 step")
  refine compared_true T hx hy (Num.own y) (by omega) fun _ => ?_
  (repeat walk_at "l3 step")
  refine u_neI ?_
  (repeat walk_at "l3 step")
  refine r_iteS (fun h0 z => ?_) ?_
  · (repeat walk_at "l3 step")
    refine over_true T hx hy h0 (Num.own y) (by omega) fun _ => ?_
    (repeat walk_at "l3 step")
    refine frac_true h0 (hy.b1.mono (by omega)) fun _ => ?_
    (repeat walk_at "l3 step")
    refine times_true hx (nm_rt h0 hy.b2 hy.b1) (by omega) fun _ => ?_
    (repeat walk_at "l3 step")
    exact is_true T (over_eq hx hy h0) fun _ => ⟨true, rfl, z⟩
  (repeat walk_at "l3 step")
  refine take_true hb3 (by omega) (by omega) (b9000 (by decide)) fun j xs4 fin _ _ hb4 hf => ⟨_, hf, rfl, rfl, ?_⟩
  (repeat walk_at "l3 step")
  refine n_if hb4 (by omega) hu fun n xs5 hn hb5 => ?_
  have bn : B 118 n := b118 (by omega)
  have h1 : Rt 118 (n, 1) := rt_int bn (by omega)
  (repeat walk_at "l3 step")
  refine u_add (r := (n, 1)) T hx h1 (Num.int n) (by omega) ?_
  (repeat walk_at "l3 step")
  refine plus_true (y := (n, 1)) hx h1 (by omega) fun _ => ?_
  (repeat walk_at "l3 step")
  refine is_true T rfl fun _ => ?_
  (repeat walk_at "l3 step")
  refine u_sub (r := (n, 1)) T hx h1 (Num.int n) (by omega) ?_
  (repeat walk_at "l3 step")
  refine minus_true (y := (n, 1)) hx h1 (by omega) fun _ => ?_
  (repeat walk_at "l3 step")
  refine is_true T rfl fun _ => ?_
  (repeat walk_at "l3 step")
  refine u_neTT ?_
  (repeat walk_at "l3 step")
  refine u_mul (r := (n, 1)) T hx h1 (Num.int n) (by omega) ?_
  (repeat walk_at "l3 step")
  refine times_true (y := (n, 1)) hx h1 (by omega) fun _ => ?_
  (repeat walk_at "l3 step")
  refine is_true T rfl fun _ => ?_
  (repeat walk_at "l3 step")
  refine compared_true (y := (n, 1)) T hx h1 (Num.int n) (by omega) fun _ => ?_
  (repeat walk_at "l3 step")
  refine u_neI ?_
  (repeat walk_at "l3 step")
  refine r_iteS (fun h0 z => ?_) ?_
  · (repeat walk_at "l3 step")
    refine over_true (r := (n, 1)) T hx h1 h0 (Num.int n) (by omega) fun _ => ?_
    (repeat walk_at "l3 step")
    refine frac_true h0 (b9000 (by omega)) fun _ => ?_
    (repeat walk_at "l3 step")
    refine times_true (y := nm 1 n) hx (nm_rt h0 h1.b2 bn) (by omega) fun _ => ?_
    (repeat walk_at "l3 step")
    exact is_true T (over_eq (y := (n, 1)) hx h1 h0) fun _ => ⟨true, rfl, z⟩
  (repeat walk_at "l3 step")
  refine as_num T (Num.own x) fun _ => ?_
  (repeat walk_at "l3 step")
  refine is_true (x := x) T rfl fun _ => ?_
  (repeat walk_at "l3 step")
  refine as_num (d := .int n) T (Num.int n) fun _ => ?_
  (repeat walk_at "l3 step")
  refine is_true (x := (n, 1)) (y := (n, 1)) T rfl fun _ => ?_
  (repeat walk_at "l3 step")
  refine chosen_true T (hx.mono (by omega)) (hy.mono (by omega)) bn fun _ => ?_
  (repeat walk_at "l3 step")
  refine take_true hb5 (by omega) (by omega) (b9000 (by decide)) fun o xs6 fin ho0 ho7 hb6 hf => ⟨_, hf, rfl, rfl, ?_⟩
  (repeat walk_at "l3 step")
  obtain ⟨d, hd', hodd, rx, hrx, hsx⟩ : ∃ d : D, atI [D.bl true, .bl false, .non, .str "1", .lst [.int 1], .tup [.int 2, .int 1], .dk [] []] o = some d ∧ Odd d ∧ ∃ x : Str, reprD d = some x ∧ SeqAt.shaped (.str x) = true := by
    have : o = 0 ∨ o = 1 ∨ o = 2 ∨ o = 3 ∨ o = 4 ∨ o = 5 ∨ o = 6 := by omega
    have op : ∀ d : D, (∃ y, reprD d = some y) → ∃ y, reprD d = some y := fun _ h => h
    rcases this with rfl | rfl | rfl | rfl | rfl | rfl | rfl
    · exact ⟨_, rfl, .inl ⟨_, rfl⟩, _, rfl, by decide +kernel⟩
    · exact ⟨_, rfl, .inl ⟨_, rfl⟩, _, rfl, by decide +kernel⟩
    · exact ⟨_, rfl, .inr (.inl rfl), _, rfl, by decide +kernel⟩
    · exact ⟨_, rfl, .inr (.inr (.inl ⟨_, rfl⟩)), PyData.shown (.str "1"), by decide +kernel, by decide +kernel⟩
    · exact ⟨_, rfl, .inr (.inr (.inr (.inl ⟨_, rfl⟩))), _, rfl, by decide +kernel⟩
    · exact ⟨_, rfl, .inr (.inr (.inr (.inr (.inl ⟨_, rfl⟩)))), _, rfl, by decide +kernel⟩
    · exact ⟨_, rfl, .inr (.inr (.inr (.inr (.inr ⟨_, _, rfl⟩)))), _, rfl, by decide +kernel⟩
  refine r_ix rfl rfl hd' ?_
  (repeat walk_at "l3 step")
  refine init_int fun fin hf => ⟨_, _, hf, ?_⟩
  (repeat walk_at "l3 step")
  refine u_eqO (p := (1, 1)) T hodd ?_
  (repeat walk_at "l3 step")
  refine init_int fun fin hf => ⟨_, _, hf, ?_⟩
  (repeat walk_at "l3 step")
  refine u_eqO (p := (0, 1)) T hodd ?_
  (repeat walk_at "l3 step")
  refine refused_true T hodd hrx hsx fun _ => ?_
  (repeat walk_at "l3 step")
  refine init_int fun fin hf => ⟨_, _, hf, ?_⟩
  (repeat walk_at "l3 step")
  · obtain ⟨z, hz, hz0⟩ : ∃ z : D, atI [D.int 0, ra Z (0, 1)] (k.fmod 2) = some z ∧ Num Z z (0, 1) := by
      have e1 := Int.fmod_nonneg_of_pos k (b := 2) (by omega)
      have e2 := Int.fmod_lt_of_pos k (b := 2) (by omega)
      have : k.fmod 2 = 0 ∨ k.fmod 2 = 1 := by omega
      rcases this with e | e <;> rw [e]
      · exact ⟨_, rfl, Num.int 0⟩
      · exact ⟨_, rfl, Num.own _⟩
    refine r_ix rfl rfl hz ?_
    (repeat walk_at "l3 step")
    refine zero_true T hx hz0 (by omega) fun _ => ?_
    (repeat walk_at "l3 step")
    exact q _ _ _ _ _ _ _ _ _ _
  · show (2 : Int) ≠ 0; omega
theorem loop_true (T : Txt K mg Z) {ns : List Int} {E : DE} (q : ∀ b1 b2 b3 b4 b5 b6 b7 b8 b9 b10 b11 : S, E.nx [.v (.lst (ns.map D.int)), b1, b2, b3, b4, b5, b6, b7, b8, b9, b10, b11]) :
    ∀ (ks : List Int), (∀ k ∈ ks, 0 ≤ k ∧ k ≤ 10) → ∀ a1 a2 a3 a4 a5 a6 a7 a8 a9 a10 a11 : S, loopD (wgName 1) (body K Z) E (ks.map D.int) [.v (.lst (ns.map D.int)), a1, a2, a3, a4, a5, a6, a7, a8, a9, a10, a11]
  | [], _, _, _, _, _, _, _, _, _, _, _, _ => q _ _ _ _ _ _ _ _ _ _ _
  | k :: ks, h, a1, a2, a3, a4, a5, a6, a7, a8, a9, a10, a11 => by
    obtain ⟨h0, h1⟩ := h k List.mem_cons_self
    refine turn_true (E := { E with nx := loopD (wgName 1) (body K Z) E (ks.map D.int), ct := loopD (wgName 1) (body K Z) E (ks.map D.int), bk := E.nx }) T h0 h1 fun _ _ _ _ _ _ _ _ _ _ => ?_
    exact loop_true T q ks (fun k' hk' => h k' (List.mem_cons_of_mem _ hk')) _ _ _ _ _ _ _ _ _ _ _
theorem law_true (T : Txt K mg Z) (ns : List Int) (hl : ns.length ≤ 63) : q_l_law K Z [.v (.lst (ns.map D.int))] (fun r _ => rvD r = .bl true) (fun _ _ => False) := by
  refine r_fn rfl ?_
  unfold w_l_law
  (repeat walk_at "l3 step")
  rw [List.length_map]
  obtain ⟨j, hj, j0, j2⟩ : ∃ j : Nat, (if (if (↑ns.length : Int) < 2 then (↑ns.length : Int) else 2) > 1 then (if (↑ns.length : Int) < 2 then (↑ns.length : Int) else 2) else 1) = (j : Int) ∧ 1 ≤ j ∧ j ≤ 2 := by
    by_cases h : 2 ≤ ns.length
    · exact ⟨2, by split <;> split <;> omega, by omega, by omega⟩
    · exact ⟨1, by split <;> split <;> omega, by omega, by omega⟩
  rw [hj]
  refine ⟨by omega, by omega, ?_⟩
  rw [Int.toNat_natCast]
  have e : rangeD 0 j = ((List.range j).map fun i : Nat => (0 : Int) + (i : Int)).map D.int := by
    unfold rangeD
    rw [List.map_map]
    rfl
  rw [e]
  refine loop_true T (fun _ _ _ _ _ _ _ _ _ _ _ => ?_) _ (fun k hk => ?_) _ _ _ _ _ _ _ _ _ _ _
  · have z : nm 0 (-5) = (0, 1) := by decide
    (repeat walk_at "l3 step")
    refine init_int fun fin hf => ⟨_, _, hf, ?_⟩
    (repeat walk_at "l3 step")
    refine bottom_true (p := (7, 1)) fun _ => ?_
    (repeat walk_at "l3 step")
    refine init_true (a := 0) (b := -5) (by decide) (b9000 (by decide)) fun fin hf => ⟨_, _, hf, ?_⟩
    rw [z]
    (repeat walk_at "l3 step")
    refine bottom_true (p := (0, 1)) fun _ => ?_
    (repeat walk_at "l3 step")
  · obtain ⟨i, hi, rfl⟩ := List.mem_map.mp hk
    have := List.mem_range.mp hi
    omega
end
end K02

set_option Elab.async false
set_option linter.all false
set_option maxRecDepth 100000
open PySem PySem.W PySem.Calls PyProof.Rows
set_option maxHeartbeats 0 in
theorem PySem.Challenge.cw_rangepools_k02_ratios_holds : PySem.Challenge.rw_rangepools_k02_ratios.Holds := by
  w_on; o_law
  refine HandSHeadRun.head_imp (r := K02.R) (q := view K02.R.prog [0, 33]) (H := K02.hk) (ob := K02.ob) (M := 6000) (loose := K02.lo) (d := HandSHeadRun.topDef K02.R.prog 33) (kwd := []) K02.ob_eq
    K02.run (by kernel_rfl) (by kernel_rfl) (by kernel_rfl) (by rfl) (by first | assumption | decide +kernel) (by decide +kernel) ⟨rfl, rfl, rfl, rfl, rfl, by decide +kernel⟩ ?hw ?hc
  case hw => w_witness2
  case hc =>
    refine L3.walk_G (l := PySem.Challenge.rw_rangepools_k02_ratios) (n := 63) (k := 7) (par := "_law_script") rfl (by decide) (by kernel_rfl) ⟨⟨rfl, by decide, by decide⟩, rfl⟩ ?F
    intro w mg fa h Y G hmg0
    obtain ⟨K, KX, c⟩ := Y
    have hmg : mg ("law" : PySem.Str) = some (.ref fa) := by
      have e : (HandSHeadRun.topDef K02.R.prog 33).name = ("law" : PySem.Str) := by kernel_rfl
      rw [← e]
      exact hmg0
    obtain ⟨Z, T, hz⟩ := K02.facts KX G c
    have hf : fa = Z.f_l_law := by
      have z := hmg.symm.trans T.G_l_law
      cases z
      rfl
    subst hf
    exact ⟨K, Z.d_l_law, K02.q_l_law K Z, KX, fun s u => L3.bindsA1 T.F_l_law (fun _ _ _ _ _ _ us hl => match us, hl with | [_], _ => rfl) s u, fun ns hl => K02.law_true T ns hl, fun base _ _ => K02.ok_l_law T⟩
#print axioms PySem.Challenge.cw_rangepools_k02_ratios_holds
