import PyProof.Rows.All
import Wide.All
import OpenK.AllK
import Wide.FinOn
import HandS.ForMost
import HandS.ForExc
import HandS.Wide
import HandS.Gcd
import HandS.OwnEq
import HandS.Property
import HandS.Defaults
import HandS.CallSlots
import HandS.ExcField
import HandS.ExcInit
import HandS.ExcValue
import HandS.Flow
import HandS.Deep
import HandS.TryMany
import HandS.IsInst
import HandS.Small
import HandS.Ends
import HandS.HeadEnd
import HandS.Head0
import HandS.Head1
import HandS.Head2
import HandS.HeadHook1
import HandS.HeadHook2
import PySem.Challenge.RW_rangepools_k01_errors
import KE.KStateDown
import HandS.Head3
import HandS.ExcIs
import HandS.Style
import HandS.More
import HandS.TupAny
import HandS.TryOnly
import HandS.Star
import KE.GoesMore
import KE.GoesEnum
import PyProof.CollectIter
import PyProof.WalksMore
import PyProof.ListMulAny
import PyProof.Rows.ListMulArg
import PyProof.Rows.ListMulCarried
import KE.KExcIs
set_option Elab.async false
set_option linter.all false
set_option maxRecDepth 100000
set_option maxHeartbeats 1000000
/-! L3: trees over the layer. A value is a tree (D) that never changes; a slot may own a list that does. -/
namespace L3
open PySem L2

inductive D where
  | non | bl (b : Bool) | int (n : Int) | str (s : Str) | ty (n : String) | adr (a : Addr)
  | tup (xs : List D) | lst (xs : List D) | obj (c : Addr) (ns : List Str) (xs : List D) | dk (ks : List Key) (xs : List D)
  | er (c : Addr)
/-- an error object of the class cls, d its dict -/
def ErO (cls : PySem.Value) (d : Option Addr) (a : Addr) : HO := .ext fun h => ∃ (oe : PySem.Obj) (vs : Array PySem.Value), h.get? a = some oe ∧ Zc cls d oe ∧ oe.data = .fields vs
theorem erO_ok {P : PySem.Program} {w : PySem.World} {H : Hp} {h : PySem.Heap} {a : Addr} {cls : PySem.Value} {d : Option Addr} {oe : PySem.Obj} {vs : Array PySem.Value} (e : h.get? a = some oe) (z : Zc cls d oe) (v : oe.data = .fields vs) : ObjOk P w H h a (ErO cls d a) :=
  ⟨⟨oe, vs, e, z, v⟩, ⟨oe, e⟩, fun _ _ ⟨o, ws, q, r⟩ k => ⟨o, ws, k o q, r⟩⟩
/-- an error of the class c, held as a value -/
def ErAt (F : Hp) (c a : Addr) : Prop := ∃ d, F a = some (ErO (.ref c) d a) ∧ ∀ dd, d = some dd → ∃ fs, F dd = some (.xd fs)
theorem ErAt.mono {F F' : Hp} {c a : Addr} (e : Same F F') (h : ErAt F c a) : ErAt F' c a := by
  obtain ⟨d, h1, h2⟩ := h
  exact ⟨d, e _ _ h1, fun dd hd => by obtain ⟨fs, h⟩ := h2 dd hd; exact ⟨fs, e _ _ h⟩⟩

/-! what stands for a tree in the part F of the heap that never changes again -/
mutual
def Rep (K : PySem.W.Frag) (F : Hp) : D → V → Prop
  | .non, v => v = .non
  | .bl b, v => v = .bl b
  | .int n, v => v = .int n
  | .str s, v => v = .str s
  | .ty n, v => v = .ty n
  | .adr a, v => v = .ref a
  | .tup ds, v => ∃ a vs, v = .ref a ∧ SqT K F a vs ∧ Reps K F ds vs
  | .lst ds, v => ∃ a vs, v = .ref a ∧ SqL K F a vs ∧ Reps K F ds vs
  | .obj c ns ds, v => ∃ a dx vs, v = .ref a ∧ F a = some (.ins c dx (ns.zip vs)) ∧ ns.length = vs.length ∧ Reps K F ds vs
  | .dk ks ds, v => ∃ a vs, v = .ref a ∧ F a = some (.dK (ks.zip vs)) ∧ ks.length = vs.length ∧ Reps K F ds vs
  | .er c, v => ∃ a, v = .ref a ∧ ErAt F c a
def Reps (K : PySem.W.Frag) (F : Hp) : List D → List V → Prop
  | [], vs => vs = []
  | d :: ds, vs => ∃ v r, vs = v :: r ∧ Rep K F d v ∧ Reps K F ds r
end

theorem seqT {K : PySem.W.Frag} {H H' : Hp} {a : Addr} {xs : List V} (e : Same H H') (h : SqT K H a xs) : SqT K H' a xs := by
  rcases h with (h | ⟨o, h⟩) | h
  · exact .inl (.inl (e _ _ h))
  · exact .inl (.inr ⟨o, e _ _ h⟩)
  · exact .inr h

mutual
theorem Rep.mono {K : PySem.W.Frag} {F F' : Hp} (e : Same F F') : ∀ {d : D} {v : V}, Rep K F d v → Rep K F' d v
  | .non, _, h | .bl _, _, h | .int _, _, h | .str _, _, h | .ty _, _, h | .adr _, _, h => h
  | .tup ds, v, h => by
    obtain ⟨a, vs, h1, h2, h3⟩ := h
    exact ⟨a, vs, h1, seqT e h2, Reps.mono e h3⟩
  | .lst ds, v, h => by
    obtain ⟨a, vs, h1, h2, h3⟩ := h
    exact ⟨a, vs, h1, Same.seq e h2, Reps.mono e h3⟩
  | .obj c ns ds, v, h => by
    obtain ⟨a, dx, vs, h1, h2, h4, h3⟩ := h
    exact ⟨a, dx, vs, h1, e _ _ h2, h4, Reps.mono e h3⟩
  | .dk ks ds, v, h => by
    obtain ⟨a, vs, h1, h2, h4, h3⟩ := h
    exact ⟨a, vs, h1, e _ _ h2, h4, Reps.mono e h3⟩
  | .er c, v, h => by
    obtain ⟨a, h1, h2⟩ := h
    exact ⟨a, h1, h2.mono e⟩
theorem Reps.mono {K : PySem.W.Frag} {F F' : Hp} (e : Same F F') : ∀ {ds : List D} {vs : List V}, Reps K F ds vs → Reps K F' ds vs
  | [], _, h => h
  | d :: ds, _, h => by
    obtain ⟨v, r, h1, h2, h3⟩ := h
    exact ⟨v, r, h1, Rep.mono e h2, Reps.mono e h3⟩
end

theorem Reps.length {K : PySem.W.Frag} {F : Hp} : ∀ {ds : List D} {vs : List V}, Reps K F ds vs → vs.length = ds.length
  | [], _, h => by rw [show _ = _ from h]; rfl
  | d :: ds, _, h => by
    obtain ⟨v, r, h1, h2, h3⟩ := h
    rw [h1, List.length_cons, List.length_cons, h3.length]
theorem Reps.get {K : PySem.W.Frag} {F : Hp} : ∀ {ds : List D} {vs : List V} {i : Nat} {d : D}, Reps K F ds vs → ds[i]? = some d → ∃ v, vs[i]? = some v ∧ Rep K F d v
  | [], _, _, _, _, e => by simp at e
  | x :: ds, _, 0, d, h, e => by
    obtain ⟨v, r, h1, h2, h3⟩ := h
    have e' : x = d := Option.some.inj e
    rw [h1, ← e']
    exact ⟨v, rfl, h2⟩
  | x :: ds, _, i + 1, d, h, e => by
    obtain ⟨v, r, h1, h2, h3⟩ := h
    rw [h1]
    exact h3.get (i := i) e
theorem Reps.get' {K : PySem.W.Frag} {F : Hp} {ds : List D} {vs : List V} {i : Nat} {v : V} (h : Reps K F ds vs) (e : vs[i]? = some v) : ∃ d, ds[i]? = some d ∧ Rep K F d v := by
  have hl := h.length
  have hi : i < vs.length := (List.getElem?_eq_some_iff.mp e).1
  have hd : ds[i]? = some ds[i] := List.getElem?_eq_getElem (by omega)
  obtain ⟨w, hw, r⟩ := h.get hd
  rw [e] at hw
  exact ⟨_, hd, by rw [Option.some.inj hw]; exact r⟩
theorem Reps.append {K : PySem.W.Frag} {F : Hp} : ∀ {ds es : List D} {vs ws : List V}, Reps K F ds vs → Reps K F es ws → Reps K F (ds ++ es) (vs ++ ws)
  | [], _, _, _, h, h' => by rw [show _ = _ from h]; exact h'
  | d :: ds, _, _, _, h, h' => by
    obtain ⟨v, r, h1, h2, h3⟩ := h
    rw [h1]
    exact ⟨v, _, rfl, h2, h3.append h'⟩
theorem Reps.set {K : PySem.W.Frag} {F : Hp} : ∀ {ds : List D} {vs : List V} {i : Nat} {d : D} {v : V}, Reps K F ds vs → Rep K F d v → Reps K F (ds.set i d) (vs.set i v)
  | [], _, _, _, _, h, _ => by rw [show _ = _ from h]; rfl
  | x :: ds, _, 0, d, v, h, e => by
    obtain ⟨v', r, h1, h2, h3⟩ := h
    rw [h1]
    exact ⟨v, r, rfl, e, h3⟩
  | x :: ds, _, i + 1, d, v, h, e => by
    obtain ⟨v', r, h1, h2, h3⟩ := h
    rw [h1]
    exact ⟨v', _, rfl, h2, h3.set (i := i) e⟩
theorem Reps.nil {K : PySem.W.Frag} {F : Hp} : Reps K F [] [] := rfl
theorem Reps.cons {K : PySem.W.Frag} {F : Hp} {d : D} {v : V} {ds : List D} {vs : List V} (h : Rep K F d v) (h' : Reps K F ds vs) : Reps K F (d :: ds) (v :: vs) := ⟨v, vs, rfl, h, h'⟩

/-- what a slot holds: nothing that is told; a tree; a list, an instance of its own (k: handed in by the caller, who gets it back) -/
inductive S where
  | no | v (d : D) | ol (k : Bool) (xs : List D) | oo (k : Bool) (c : Addr) (ns : List Str) (xs : List D) | ex (a : Addr) (c : Value) (d : Option Addr) (ns : List Str) (xs : List D)
def S.owned : S → Bool
  | .ol _ _ => true
  | .oo _ _ _ _ => true
  | _ => false
def S.inp : S → Bool
  | .ol k _ => k
  | .oo k _ _ _ => k
  | _ => false

/-- a call as it stood at the start: F and H there, and where the things lie that were handed in (by slot) -/
structure B where
  F0 : Hp
  H0 : Hp
  P : Nat → Option Addr

structure Wf (b : B) (F H : Hp) : Prop where
  fh : Same F H
  ff : Same b.F0 F
  keep : ∀ a o, (∀ i, b.P i ≠ some a) → b.H0 a = some o → H a = some o
  new : ∀ a o, F a = some o → b.F0 a = some o ∨ b.H0 a = none
  live : ∀ a, H a = none → b.H0 a = none
  pn : ∀ i p, b.P i = some p → ∃ o, b.H0 p = some o

/-- an owned thing at p -/
def Own (K : PySem.W.Frag) (F H : Hp) (s : S) (p : Addr) : Prop := F p = none ∧ match s with
  | .ol _ xs => ∃ vs, H p = some (.lst vs) ∧ Reps K F xs vs
  | .oo _ c ns xs => ∃ dx vs, H p = some (.ins c dx (ns.zip vs)) ∧ ns.length = vs.length ∧ Reps K F xs vs
  | _ => False
def SlotOk (K : PySem.W.Frag) (b : B) (F H : Hp) (i : Nat) (x : Option V) (s : S) : Prop := match s with
  | .no => True
  | .v d => ∃ v, x = some v ∧ Rep K F d v
  | .ex a _ d ns xs => x = some (.ref a) ∧ ∀ dd, d = some dd → ∃ vs, F dd = some (.xd (ns.zip vs)) ∧ Reps K F xs vs
  | .ol _ _ | .oo _ _ _ _ => ∃ p, x = some (.ref p) ∧ Own K F H s p ∧ if s.inp = true then b.P i = some p else b.H0 p = none

structure Rs (K : PySem.W.Frag) (b : B) (δ : List S) (σ : L2.St) (F H : Hp) : Prop where
  len : σ.length = δ.length
  sl : ∀ i s x, δ[i]? = some s → σ[i]? = some x → SlotOk K b F H i x s
  sep : ∀ (i j : Nat) (s t : S) (p : Addr), i ≠ j → δ[i]? = some s → δ[j]? = some t → s.owned = true → t.owned = true → σ[i]? = some (some (.ref p)) → σ[j]? ≠ some (some (.ref p))

/-- one more step: F and H have grown -/
structure Ext (F H F' H' : Hp) : Prop where
  ff : Same F F'
  fh : Same F' H'
  hh : Same H H'
  new : ∀ a o, F' a = some o → F a = some o ∨ H a = none

theorem Ext.refl {F H : Hp} (h : Same F H) : Ext F H F H := ⟨Same.refl _, h, Same.refl _, fun _ _ e => .inl e⟩
theorem Ext.trans {F H F1 H1 F2 H2 : Hp} (a : Ext F H F1 H1) (c : Ext F1 H1 F2 H2) : Ext F H F2 H2 := ⟨a.ff.trans c.ff, c.fh, a.hh.trans c.hh, fun x o e => by
  rcases c.new x o e with q | q
  · exact a.new x o q
  · exact .inr (a.hh.free q)⟩
/-- a new thing that never changes again -/
theorem Ext.new1 {F H : Hp} {p : Addr} {o : HO} (h : Same F H) (n : H p = none) : Ext F H (upd F p o) (upd H p o) := by
  have nF : F p = none := h.free n
  refine ⟨fun a x e => ?_, fun a x e => ?_, fun a x e => ?_, fun a x e => ?_⟩
  · rw [upd_ne (ne_of_none e nF)]; exact e
  · by_cases q : a = p
    · subst q; rw [upd_same] at e ⊢; exact e
    · rw [upd_ne q] at e ⊢; exact h _ _ e
  · rw [upd_ne (ne_of_none e n)]; exact e
  · by_cases q : a = p
    · subst q; exact .inr n
    · rw [upd_ne q] at e; exact .inl e
/-- a new thing beside -/
theorem Ext.beside {F H : Hp} {p : Addr} {o : HO} (h : Same F H) (n : H p = none) : Ext F H F (upd H p o) := by
  refine ⟨Same.refl _, fun a x e => ?_, fun a x e => ?_, fun a x e => .inl e⟩
  · rw [upd_ne (ne_of_none (h _ _ e) n)]; exact h _ _ e
  · rw [upd_ne (ne_of_none e n)]; exact e
theorem Wf.ext {b : B} {F H F' H' : Hp} (w : Wf b F H) (e : Ext F H F' H') : Wf b F' H' := ⟨e.fh, w.ff.trans e.ff, fun a o n h => e.hh _ _ (w.keep a o n h), fun a o h => by
  rcases e.new a o h with q | q
  · exact w.new a o q
  · exact .inr (w.live a q), fun a q => w.live a (e.hh.free q), w.pn⟩
theorem Own.ext {K : PySem.W.Frag} {F H F' H' : Hp} {s : S} {p : Addr} (w : Own K F H s p) (e : Ext F H F' H') : Own K F' H' s p := by
  obtain ⟨n, w⟩ := w
  have no : ∀ {o}, H p = some o → F' p = none := fun {o} ho => by
    cases q : F' p with
    | none => rfl
    | some u =>
      rcases e.new p u q with z | z
      · rw [n] at z; cases z
      · rw [ho] at z; cases z
  cases s with
  | ol k xs =>
    obtain ⟨vs, h1, h2⟩ := w
    exact ⟨no h1, vs, e.hh _ _ h1, h2.mono e.ff⟩
  | oo k c ns xs =>
    obtain ⟨dx, vs, h1, h3, h2⟩ := w
    exact ⟨no h1, dx, vs, e.hh _ _ h1, h3, h2.mono e.ff⟩
  | no => exact w.elim
  | v d => exact w.elim
  | ex _ _ _ _ _ => exact w.elim
theorem SlotOk.ext {K : PySem.W.Frag} {b : B} {F H F' H' : Hp} {i : Nat} {x : Option V} {s : S} (w : SlotOk K b F H i x s) (e : Ext F H F' H') : SlotOk K b F' H' i x s := by
  cases s with
  | no => trivial
  | v d =>
    obtain ⟨v, h1, h2⟩ := w
    exact ⟨v, h1, h2.mono e.ff⟩
  | ex a c d ns xs =>
    obtain ⟨h1, h2⟩ := w
    exact ⟨h1, fun dd hd => let ⟨vs, a1, a2⟩ := h2 dd hd; ⟨vs, e.ff _ _ a1, a2.mono e.ff⟩⟩
  | ol k xs =>
    obtain ⟨p, h1, h2, h3⟩ := w
    exact ⟨p, h1, h2.ext e, h3⟩
  | oo k c ns xs =>
    obtain ⟨p, h1, h2, h3⟩ := w
    exact ⟨p, h1, h2.ext e, h3⟩
theorem Rs.ext {K : PySem.W.Frag} {b : B} {δ : List S} {σ : L2.St} {F H F' H' : Hp} (r : Rs K b δ σ F H) (e : Ext F H F' H') : Rs K b δ σ F' H' :=
  ⟨r.len, fun i s x h1 h2 => (r.sl i s x h1 h2).ext e, r.sep⟩

/-! ### readings -/
abbrev Er := Addr × List (Str × D)
/-- an exception of the class at er.1, its own dict (if it has fields) -/
def RepX (K : PySem.W.Frag) (F : Hp) (er : Er) (cls : Value) (dd : Option Addr) : Prop := cls = .ref er.1 ∧ match er.2 with
  | [] => dd = none
  | fs => ∃ a vs, dd = some a ∧ F a = some (.xd ((fs.map (·.1)).zip vs)) ∧ Reps K F (fs.map (·.2)) vs
abbrev Wt := List S → (D → List S → Prop) → (Er → List S → Prop) → Prop
def Xp (K : PySem.W.Frag) (W : WX) (b : B) (F : Hp) (σ : L2.St) (er : Er) (δ' : List S) : Prop :=
  ∀ cls dd F' H', Wf b F' H' → Same F F' → Rs K b δ' σ F' H' → RepX K F' er cls dd → W cls dd σ H'
/-- an expression whose value is a tree -/
def Tr (K : PySem.W.Frag) (W : WX) (w : Wt) : TE := fun σ H Q => ∃ b δ F Po Px, Wf b F H ∧ Rs K b δ σ F H ∧ w δ Po Px ∧
  (∀ d δ', Po d δ' → ∀ v F' H', Wf b F' H' → Same F F' → Rs K b δ' σ F' H' → Rep K F' d v → Q v H') ∧ ∀ er δ', Px er δ' → Xp K W b F σ er δ'
/-- a test -/
abbrev Wb := List S → (Bool → List S → Prop) → (Er → List S → Prop) → Prop
def TrT (K : PySem.W.Frag) (W : WX) (w : Wb) : TT := fun σ H Q => ∃ b δ F Po Px, Wf b F H ∧ Rs K b δ σ F H ∧ w δ Po Px ∧
  (∀ c δ', Po c δ' → ∀ F' H', Wf b F' H' → Same F F' → Rs K b δ' σ F' H' → Q c H') ∧ ∀ er δ', Px er δ' → Xp K W b F σ er δ'
/-- a new list of its own -/
abbrev Wl := List S → (List D → List S → Prop) → (Er → List S → Prop) → Prop
def NewAt (K : PySem.W.Frag) (b : B) (δ : List S) (σ : L2.St) (F H : Hp) (xs : List D) (p : Addr) : Prop :=
  Own K F H (.ol false xs) p ∧ b.H0 p = none ∧ ∀ (j : Nat) (s : S), δ[j]? = some s → s.owned = true → σ[j]? ≠ some (some (.ref p))
def TrL (K : PySem.W.Frag) (W : WX) (w : Wl) : TE := fun σ H Q => ∃ b δ F Po Px, Wf b F H ∧ Rs K b δ σ F H ∧ w δ Po Px ∧
  (∀ xs δ', Po xs δ' → ∀ p F' H', Wf b F' H' → Same F F' → Rs K b δ' σ F' H' → NewAt K b δ' σ F' H' xs p → Q (.ref p) H') ∧ ∀ er δ', Px er δ' → Xp K W b F σ er δ'
/-- arguments: trees, or slots that are handed in -/
inductive A where
  | d (d : D) | s (j : Nat)
def RepA (K : PySem.W.Frag) (F : Hp) (σ : L2.St) : A → V → Prop
  | .d d, v => Rep K F d v
  | .s j, v => σ[j]? = some (some v)
abbrev Wa := List S → (List A → List S → Prop) → (Er → List S → Prop) → Prop
def TrA (K : PySem.W.Frag) (W : WX) (w : Wa) : TA := fun σ H Q => ∃ b δ F Po Px, Wf b F H ∧ Rs K b δ σ F H ∧ w δ Po Px ∧
  (∀ as δ', Po as δ' → ∀ vs F' H', Wf b F' H' → Same F F' → Rs K b δ' σ F' H' → Paired (RepA K F' σ) as vs → Q vs H') ∧ ∀ er δ', Px er δ' → Xp K W b F σ er δ'
/-- statements -/
inductive Rv where
  | d (d : D) | l (xs : List D)
structure DE where
  nx : List S → Prop
  rt : Rv → List S → Prop
  bk : List S → Prop
  ct : List S → Prop
  xx : Er → List S → Prop
abbrev Ws := List S → DE → Prop
def RtOk (K : PySem.W.Frag) (b : B) (F H : Hp) : Rv → V → Prop
  | .d d, v => Rep K F d v
  | .l xs, v => ∃ p, v = .ref p ∧ Own K F H (.ol false xs) p ∧ b.H0 p = none
/-- what is handed back in the slots that were handed in -/
def Fin (K : PySem.W.Frag) (b : B) (fin : List S) (F H : Hp) : Prop := ∀ i s p, fin[i]? = some s → b.P i = some p → s.inp = true → Own K F H s p
def TrS (K : PySem.W.Frag) (W : WX) (w : Ws) : TS := fun Dn σ H => ∃ b δ F E, Wf b F H ∧ Rs K b δ σ F H ∧ w δ E ∧
  (∀ δ', E.nx δ' → ∀ σ' F' H', Wf b F' H' → Same F F' → Rs K b δ' σ' F' H' → Dn.nx σ' H') ∧
  (∀ δ', E.bk δ' → ∀ σ' F' H', Wf b F' H' → Same F F' → Rs K b δ' σ' F' H' → Dn.bk σ' H') ∧
  (∀ δ', E.ct δ' → ∀ σ' F' H', Wf b F' H' → Same F F' → Rs K b δ' σ' F' H' → Dn.ct σ' H') ∧
  (∀ r δ', E.rt r δ' → ∀ v F' H', Wf b F' H' → Same F F' → Fin K b δ' F' H' → RtOk K b F' H' r v → Dn.rt v H') ∧
  (∀ er δ', E.xx er δ' → ∀ σ' F' H', Wf b F' H' → Same F F' → Rs K b δ' σ' F' H' → ∀ cls dd, RepX K F' er cls dd → W cls dd σ' H')
end L3

set_option Elab.async false
set_option linter.all false
set_option maxRecDepth 100000
set_option maxHeartbeats 1000000
namespace L3
open PySem L2
section
variable {X : Cx} {K : PySem.W.Frag} {W : WX} {e a b c : Expr} {es : List Expr} {t : TE} {pos : Pos}

theorem pe_imp {t' : TE} (h : PE X e t) (i : ∀ σ H Q, t' σ H Q → t σ H Q) : PE X e t' := ⟨fun pins s σ H Q I q => h.run pins s σ H Q I (i _ _ _ q)⟩
theorem pt_imp {t t' : TT} (h : PT X e t) (i : ∀ σ H Q, t' σ H Q → t σ H Q) : PT X e t' := ⟨fun pins s σ H Q I q => h.run pins s σ H Q I (i _ _ _ q)⟩
theorem pa_imp {t t' : TA} (h : PA X es t) (i : ∀ σ H Q, t' σ H Q → t σ H Q) : PA X es t' := ⟨fun pos pins s σ H Q I q => h.run pos pins s σ H Q I (i _ _ _ q)⟩
theorem ps_imp {st : Stmt} {t t' : TS} (h : PS X st t) (i : ∀ D σ H, t' D σ H → t D σ H) : PS X st t' := ⟨fun pins s σ H D I q => h.run pins s σ H D I (i _ _ _ q)⟩
theorem pss_imp {st : List Stmt} {t t' : TS} (h : PSs X st t) (i : ∀ D σ H, t' D σ H → t D σ H) : PSs X st t' := ⟨fun pins s σ H D I q => h.run pins s σ H D I (i _ _ _ q)⟩

theorem Rs.val {b : B} {δ : List S} {σ : L2.St} {F H : Hp} {i : Nat} {d : D} (r : Rs K b δ σ F H) (h : δ[i]? = some (.v d)) : ∃ v, σ[i]? = some (some v) ∧ Rep K F d v := by
  have hi : i < δ.length := (List.getElem?_eq_some_iff.mp h).1
  have hs : i < List.length σ := by rw [r.len]; exact hi
  obtain ⟨v, h1, h2⟩ := r.sl i _ _ h (List.getElem?_eq_getElem hs)
  exact ⟨v, by rw [List.getElem?_eq_getElem hs, h1], h2⟩
theorem Rs.own {b : B} {δ : List S} {σ : L2.St} {F H : Hp} {i : Nat} {s : S} (r : Rs K b δ σ F H) (h : δ[i]? = some s) (o : s.owned = true) : ∃ p, σ[i]? = some (some (.ref p)) ∧ Own K F H s p ∧ if s.inp = true then b.P i = some p else b.H0 p = none := by
  have hi : i < δ.length := (List.getElem?_eq_some_iff.mp h).1
  have hs : i < List.length σ := by rw [r.len]; exact hi
  have q := r.sl i _ _ h (List.getElem?_eq_getElem hs)
  cases s with
  | no => cases o
  | v d => cases o
  | ex _ _ _ _ _ => cases o
  | ol k xs =>
    obtain ⟨p, h1, h2, h3⟩ := q
    exact ⟨p, by rw [List.getElem?_eq_getElem hs, h1], h2, h3⟩
  | oo k c ns xs =>
    obtain ⟨p, h1, h2, h3⟩ := q
    exact ⟨p, by rw [List.getElem?_eq_getElem hs, h1], h2, h3⟩
theorem Xp.back {b : B} {F F' : Hp} {σ : L2.St} (e : Same F F') {er : Er} {δ : List S} (h : Xp K W b F σ er δ) : Xp K W b F' σ er δ := fun cls dd G H' w s r x => h cls dd G H' w (e.trans s) r x

/-! ### names, constants -/
def wVar (i : Nat) : Wt := fun δ Q _ => ∃ d, δ[i]? = some (.v d) ∧ Q d δ
theorem x_var (i : Nat) {x : Str} (hN : X.N[i]? = some x := by rfl) (hv : Vis X.env.scope x := by first | exact Or.inl rfl | exact Or.inr (Or.inl rfl) | exact Or.inr (Or.inr rfl)) (hd : (x == ("__debug__" : Str)) = false := by decide)
    (hcd : (x == ("__classdict__" : Str)) = false := by decide) : PE X (.Name x pos) (Tr K W (wVar i)) := pe_imp (pe_var hN hv hd hcd) fun σ H Q h => by
  obtain ⟨b, δ, F, Po, Px, wf, r, ⟨d, hd, q⟩, k, _⟩ := h
  obtain ⟨v, h1, h2⟩ := r.val hd
  exact ⟨v, h1, k _ _ q v F H wf (Same.refl _) r h2⟩
def wC (d : D) : Wt := fun δ Q _ => Q d δ
theorem x_c {v : V} {d : D} (h : PE X e (tC v)) (hr : ∀ F, Rep K F d v) : PE X e (Tr K W (wC d)) := pe_imp h fun σ H Q h => by
  obtain ⟨b, δ, F, Po, Px, wf, r, q, k, _⟩ := h
  exact k _ _ q v F H wf (Same.refl _) r (hr F)
theorem x_int {i : Int} {j : Nat} : PE X (.Constant (.int i) j pos) (Tr K W (wC (.int i))) := x_c pe_int fun _ => rfl
theorem x_bl {i : Bool} {j : Nat} : PE X (.Constant (.bool i) j pos) (Tr K W (wC (.bl i))) := x_c pe_bl fun _ => rfl
theorem x_non {j : Nat} : PE X (.Constant .none j pos) (Tr K W (wC .non)) := x_c pe_non fun _ => rfl
theorem x_str {x : Str} {j : Nat} : PE X (.Constant (.str x) j pos) (Tr K W (wC (.str x))) := x_c pe_str fun _ => rfl
theorem x_glob {x : Str} {p : Addr} (hg : Gl X x) (hm : X.mg x = some (.ref p)) (hdb : (x == ("__debug__" : Str)) = false := by decide) : PE X (.Name x pos) (Tr K W (wC (.adr p))) := x_c (v := .ref p) (pe_glob hg hm rfl hdb) fun _ => rfl

/-! ### operators -/
/-- an operation on trees -/
abbrev O2 := D → D → (D → Prop) → Prop
def Op2 (K : PySem.W.Frag) (o : O2) : R2 := fun x y H Q => ∃ F d e P, Same F H ∧ Rep K F d x ∧ Rep K F e y ∧ o d e P ∧ ∀ z, P z → ∀ v F' H', Ext F H F' H' → Rep K F' z v → Q v H'
abbrev O1 := D → (D → Prop) → Prop
def Op1 (K : PySem.W.Frag) (o : O1) : V → Hp → VK → Prop := fun x H Q => ∃ F d P, Same F H ∧ Rep K F d x ∧ o d P ∧ ∀ z, P z → ∀ v F' H', Ext F H F' H' → Rep K F' z v → Q v H'
def wOp (o : O2) (wa wb : Wt) : Wt := fun δ Q Y => wa δ (fun d δ1 => wb δ1 (fun e δ2 => o d e fun z => Q z δ2) Y) Y
def wUn (o : O1) (wa : Wt) : Wt := fun δ Q Y => wa δ (fun d δ1 => o d fun z => Q z δ1) Y
theorem tr_op {o : O2} {wa wb : Wt} {σ : L2.St} {H : Hp} {Q : VK} (h : Tr K W (wOp o wa wb) σ H Q) : tOp (Op2 K o) (Tr K W wa) (Tr K W wb) σ H Q := by
  obtain ⟨b, δ, F, Po, Px, wf, r, q, k, kx⟩ := h
  refine ⟨b, δ, F, _, _, wf, r, q, fun d δ1 q1 x F1 H1 wf1 s1 r1 rx => ?_, kx⟩
  refine ⟨b, δ1, F1, _, _, wf1, r1, q1, fun e δ2 q2 y F2 H2 wf2 s2 r2 ry => ?_, fun er δ' hx => Xp.back s1 (kx er δ' hx)⟩
  exact ⟨F2, d, e, _, wf2.fh, rx.mono s2, ry, q2, fun z q3 v F3 H3 ex rz => k z δ2 q3 v F3 H3 (wf2.ext ex) ((s1.trans s2).trans ex.ff) (r2.ext ex) rz⟩
theorem tr_un {o : O1} {wa : Wt} {σ : L2.St} {H : Hp} {Q : VK} (h : Tr K W (wUn o wa) σ H Q) : tUn (Op1 K o) (Tr K W wa) σ H Q := by
  obtain ⟨b, δ, F, Po, Px, wf, r, q, k, kx⟩ := h
  refine ⟨b, δ, F, _, _, wf, r, q, fun d δ1 q1 x F1 H1 wf1 s1 r1 rx => ?_, kx⟩
  exact ⟨F1, d, _, wf1.fh, rx, q1, fun z q3 v F3 H3 ex rz => k z δ1 q3 v F3 H3 (wf1.ext ex) (s1.trans ex.ff) (r1.ext ex) rz⟩
theorem x_bin {o : O2} {wa wb : Wt} {op : Operator} (ho : OpR X (binaryOp op) (Op2 K o)) (ha : PE X a (Tr K W wa)) (hb : PE X b (Tr K W wb)) : PE X (.BinOp a op b pos) (Tr K W (wOp o wa wb)) := pe_imp (pe_op ho ha hb) fun _ _ _ => tr_op
theorem x_un {o : O1} {wa : Wt} {op : UnaryOp} (ho : UnR X (unaryOp op) (Op1 K o)) (ha : PE X a (Tr K W wa)) : PE X (.UnaryOp op a pos) (Tr K W (wUn o wa)) := pe_imp (pe_un ho ha) fun _ _ _ => tr_un
theorem x_cmp {o : O2} {wa wb : Wt} {op : CmpOp} (ho : OpR X (compareOp op) (Op2 K o)) (ha : PE X a (Tr K W wa)) (hb : PE X b (Tr K W wb)) (hm : behindInMarks op b = false) : PE X (.Compare a [op] [b] pos) (Tr K W (wOp o wa wb)) := pe_imp (pe_cmpR ho ha hb hm) fun _ _ _ => tr_op

/-- from a rule of the layer -/
theorem op_of {f : Value → Value → Sem Value} {r : R2} {o : O2} (h : OpR X f r) (i : ∀ x y H Q, Op2 K o x y H Q → r x y H Q) : OpR X f (Op2 K o) := fun pins s σ H x y u v Q I rx ry q => h pins s σ H x y u v Q I rx ry (i _ _ _ _ q)
theorem op_or {f : Value → Value → Sem Value} {o p : O2} (h : OpR X f (Op2 K o)) (h' : OpR X f (Op2 K p)) : OpR X f (Op2 K fun d e P => o d e P ∨ p d e P) := fun pins s σ H x y u v Q I rx ry q => by
  obtain ⟨F, d, e, P, s1, r1, r2, q, k⟩ := q
  rcases q with q | q
  · exact h pins s σ H x y u v Q I rx ry ⟨F, d, e, P, s1, r1, r2, q, k⟩
  · exact h' pins s σ H x y u v Q I rx ry ⟨F, d, e, P, s1, r1, r2, q, k⟩
/-- whole numbers -/
def oI (C : Int → Int → Prop) (g : Int → Int → D) : O2 := fun d e P => ∃ i j, d = .int i ∧ e = .int j ∧ C i j ∧ P (g i j)
theorem op2_I {f : Value → Value → Sem Value} {C : Int → Int → Prop} {g : Int → Int → V} {g' : Int → Int → D} (h : OpR X f (rI C g)) (hg : ∀ F i j, Rep K F (g' i j) (g i j)) : OpR X f (Op2 K (oI C g')) := op_of h fun x y H Q q => by
  obtain ⟨F, d, e, P, s1, r1, r2, ⟨i, j, rfl, rfl, hc, q⟩, k⟩ := q
  exact ⟨i, j, r1, r2, hc, k _ q _ F H (Ext.refl s1) (hg F i j)⟩
def CT (_ _ : Int) : Prop := True
theorem op2_I0 {f : Value → Value → Sem Value} {g : Int → Int → V} {g' : Int → Int → D} (h : OpR X f (rI0 g)) (hg : ∀ F i j, Rep K F (g' i j) (g i j)) : OpR X f (Op2 K (oI CT g')) := op_of h fun x y H Q q => by
  obtain ⟨F, d, e, P, s1, r1, r2, ⟨i, j, rfl, rfl, hc, q⟩, k⟩ := q
  exact ⟨i, j, r1, r2, k _ q _ F H (Ext.refl s1) (hg F i j)⟩
theorem o_add : OpR X (binaryOp .Add) (Op2 K (oI CT fun i j => .int (i + j))) := op2_I0 op_add fun _ _ _ => rfl
theorem o_sub : OpR X (binaryOp .Sub) (Op2 K (oI CT fun i j => .int (i - j))) := op2_I0 op_sub fun _ _ _ => rfl
theorem o_mul : OpR X (binaryOp .Mult) (Op2 K (oI CMulW fun i j => .int (i * j))) := op2_I op_mulW fun _ _ _ => rfl
theorem o_fdiv : OpR X (binaryOp .FloorDiv) (Op2 K (oI CDivW fun i j => .int (i / j))) := op2_I op_fdivW fun _ _ _ => rfl
theorem o_mod : OpR X (binaryOp .Mod) (Op2 K (oI (fun _ j => j ≠ 0) fun i j => .int (i.fmod j))) := op2_I op_modN fun _ _ _ => rfl
end
end L3

set_option Elab.async false
set_option linter.all false
set_option maxRecDepth 100000
set_option maxHeartbeats 1000000
namespace L3
open PySem L2
section
variable {X : Cx} {K : PySem.W.Frag} {W : WX} {e a b c : Expr} {es : List Expr} {t : TE} {pos : Pos}

/-! ### truth -/
def truD : D → Option Bool
  | .non => some false
  | .bl b => some b
  | .int i => some (i != 0)
  | .tup xs => some (!xs.isEmpty)
  | .lst xs => some (!xs.isEmpty)
  | _ => none
theorem tru_rep {F H : Hp} {d : D} {v : V} {k : Bool} (s : Same F H) (r : Rep K F d v) (h : truD d = some k) : TruV K v H k := by
  cases d with
  | non => rw [show v = _ from r]; exact (Option.some.inj h).symm
  | bl b => rw [show v = _ from r]; exact (Option.some.inj h).symm
  | int i => rw [show v = _ from r]; exact (Option.some.inj h).symm
  | str s => cases h
  | ty s => cases h
  | adr s => cases h
  | er c => cases h
  | obj c ns xs => cases h
  | dk ks xs => cases h
  | tup xs =>
    obtain ⟨a, vs, rfl, h2, h3⟩ := r
    refine .inr (.inl ⟨vs, seqT s h2, ?_⟩)
    rw [← Option.some.inj h]
    cases xs with
    | nil => rw [show vs = [] from h3]; rfl
    | cons x xs => obtain ⟨_, _, rfl, _⟩ := h3; rfl
  | lst xs =>
    obtain ⟨a, vs, rfl, h2, h3⟩ := r
    refine .inl ⟨vs, Same.seq s h2, ?_⟩
    rw [← Option.some.inj h]
    cases xs with
    | nil => rw [show vs = [] from h3]; rfl
    | cons x xs => obtain ⟨_, _, rfl, _⟩ := h3; rfl
/-- a value as a test -/
def wTru (w : Wt) : Wb := fun δ Q Y => w δ (fun d δ1 => ∃ k, truD d = some k ∧ Q k δ1) Y
theorem x_tru {w : Wt} (h : PE X e (Tr X.K W w)) (he : ∀ whole, isTrue e X.env whole = (do let v ← whole; standAt e.pos; holding [v] (truthy v)) := by intro _; rfl) : PT X e (TrT X.K W (wTru w)) := pt_imp (pt_truth h he) fun σ H Q h => by
  obtain ⟨b, δ, F, Po, Px, wf, r, q, k, kx⟩ := h
  refine ⟨b, δ, F, _, _, wf, r, q, fun d δ1 q1 x F1 H1 wf1 s1 r1 rx => ?_, kx⟩
  obtain ⟨c, hc, q2⟩ := q1
  exact ⟨c, tru_rep wf1.fh rx hc, k c δ1 q2 F1 H1 wf1 s1 r1⟩
def wAndT (u w : Wb) : Wb := fun δ Q Y => u δ (fun c δ1 => if c = true then w δ1 Q Y else Q false δ1) Y
def wOrT (u w : Wb) : Wb := fun δ Q Y => u δ (fun c δ1 => if c = true then Q true δ1 else w δ1 Q Y) Y
def wNotT (u : Wb) : Wb := fun δ Q Y => u δ (fun c δ1 => Q (!c) δ1) Y
theorem trt_and {u w : Wb} {σ : L2.St} {H : Hp} {Q : Bool → Hp → Prop} (h : TrT K W (wAndT u w) σ H Q) : tAnd (TrT K W u) (TrT K W w) σ H Q := by
  obtain ⟨b, δ, F, Po, Px, wf, r, q, k, kx⟩ := h
  refine ⟨b, δ, F, _, _, wf, r, q, fun c δ1 q1 F1 H1 wf1 s1 r1 => ?_, kx⟩
  cases c with
  | true =>
    rw [if_pos rfl] at q1 ⊢
    exact ⟨b, δ1, F1, _, _, wf1, r1, q1, fun c δ2 q2 F2 H2 wf2 s2 r2 => k c δ2 q2 F2 H2 wf2 (s1.trans s2) r2, fun er δ' hx => Xp.back s1 (kx er δ' hx)⟩
  | false =>
    rw [if_neg Bool.false_ne_true] at q1 ⊢
    exact k false δ1 q1 F1 H1 wf1 s1 r1
theorem trt_or {u w : Wb} {σ : L2.St} {H : Hp} {Q : Bool → Hp → Prop} (h : TrT K W (wOrT u w) σ H Q) : tOr (TrT K W u) (TrT K W w) σ H Q := by
  obtain ⟨b, δ, F, Po, Px, wf, r, q, k, kx⟩ := h
  refine ⟨b, δ, F, _, _, wf, r, q, fun c δ1 q1 F1 H1 wf1 s1 r1 => ?_, kx⟩
  cases c with
  | false =>
    rw [if_neg Bool.false_ne_true] at q1 ⊢
    exact ⟨b, δ1, F1, _, _, wf1, r1, q1, fun c δ2 q2 F2 H2 wf2 s2 r2 => k c δ2 q2 F2 H2 wf2 (s1.trans s2) r2, fun er δ' hx => Xp.back s1 (kx er δ' hx)⟩
  | true =>
    rw [if_pos rfl] at q1 ⊢
    exact k true δ1 q1 F1 H1 wf1 s1 r1
theorem trt_not {u : Wb} {σ : L2.St} {H : Hp} {Q : Bool → Hp → Prop} (h : TrT K W (wNotT u) σ H Q) : tNot (TrT K W u) σ H Q := by
  obtain ⟨b, δ, F, Po, Px, wf, r, q, k, kx⟩ := h
  exact ⟨b, δ, F, _, _, wf, r, q, fun c δ1 q1 F1 H1 wf1 s1 r1 => k _ δ1 q1 F1 H1 wf1 s1 r1, kx⟩
theorem pw_imp {t t' : TT} (h : PW X e t) (i : ∀ σ H Q, t' σ H Q → t σ H Q) : PW X e t' := ⟨fun wh pins s σ H Q I q => h.run wh pins s σ H Q I (i _ _ _ q)⟩
theorem x_and1 {u : Wb} (h : PT X a (TrT K W u)) : PW X (.BoolOp .And [a] pos) (TrT K W u) := pw_and1 h
theorem x_or1 {u : Wb} (h : PT X a (TrT K W u)) : PW X (.BoolOp .Or [a] pos) (TrT K W u) := pw_or1 h
theorem x_andT {u w : Wb} {rest : List Expr} (h : PT X a (TrT K W u)) (h' : PW X (.BoolOp .And (b :: rest) pos) (TrT K W w)) : PW X (.BoolOp .And (a :: b :: rest) pos) (TrT K W (wAndT u w)) := pw_imp (pw_and h h') fun _ _ _ => trt_and
theorem x_orT {u w : Wb} {rest : List Expr} (h : PT X a (TrT K W u)) (h' : PW X (.BoolOp .Or (b :: rest) pos) (TrT K W w)) : PW X (.BoolOp .Or (a :: b :: rest) pos) (TrT K W (wOrT u w)) := pw_imp (pw_or h h') fun _ _ _ => trt_or
theorem x_notT {u : Wb} (h : PT X a (TrT K W u)) : PT X (.UnaryOp .Not a pos) (TrT K W (wNotT u)) := pt_imp (pt_not h) fun _ _ _ => trt_not
theorem x_cmpT {w : Wt} (h : PE X (.Compare a [c'] [b] pos) (Tr X.K W w)) (he : ∀ whole, isTrue (.Compare a [c'] [b] pos) X.env whole = (do let v ← whole; standAt (Expr.Compare a [c'] [b] pos).pos; holding [v] (truthy v)) := by intro _; rfl) : PT X (.Compare a [c'] [b] pos) (TrT X.K W (wTru w)) := x_tru h he

/-! ### and, or, not as values; a if t else b -/
def wAnd (u w : Wt) : Wt := fun δ Q Y => u δ (fun d δ1 => ∃ c, d = .bl c ∧ if c = true then w δ1 Q Y else Q (.bl false) δ1) Y
def wOr (u w : Wt) : Wt := fun δ Q Y => u δ (fun d δ1 => ∃ c, d = .bl c ∧ if c = true then Q (.bl true) δ1 else w δ1 Q Y) Y
def wNot (u : Wt) : Wt := fun δ Q Y => u δ (fun d δ1 => ∃ c, d = .bl c ∧ Q (.bl (!c)) δ1) Y
def wIf (t : Wb) (u w : Wt) : Wt := fun δ Q Y => t δ (fun c δ1 => if c = true then u δ1 Q Y else w δ1 Q Y) Y
theorem tr_and {u w : Wt} {σ : L2.St} {H : Hp} {Q : VK} (h : Tr K W (wAnd u w) σ H Q) : tAndV (Tr K W u) (Tr K W w) σ H Q := by
  obtain ⟨b, δ, F, Po, Px, wf, r, q, k, kx⟩ := h
  refine ⟨b, δ, F, _, _, wf, r, q, fun d δ1 q1 x F1 H1 wf1 s1 r1 rx => ?_, kx⟩
  obtain ⟨c, rfl, q1⟩ := q1
  refine ⟨c, rx, ?_⟩
  cases c with
  | true =>
    rw [if_pos rfl] at q1 ⊢
    exact ⟨b, δ1, F1, _, _, wf1, r1, q1, fun c δ2 q2 v F2 H2 wf2 s2 r2 => k c δ2 q2 v F2 H2 wf2 (s1.trans s2) r2, fun er δ' hx => Xp.back s1 (kx er δ' hx)⟩
  | false =>
    rw [if_neg Bool.false_ne_true] at q1 ⊢
    exact k _ δ1 q1 _ F1 H1 wf1 s1 r1 rfl
theorem tr_or {u w : Wt} {σ : L2.St} {H : Hp} {Q : VK} (h : Tr K W (wOr u w) σ H Q) : tOrV (Tr K W u) (Tr K W w) σ H Q := by
  obtain ⟨b, δ, F, Po, Px, wf, r, q, k, kx⟩ := h
  refine ⟨b, δ, F, _, _, wf, r, q, fun d δ1 q1 x F1 H1 wf1 s1 r1 rx => ?_, kx⟩
  obtain ⟨c, rfl, q1⟩ := q1
  refine ⟨c, rx, ?_⟩
  cases c with
  | false =>
    rw [if_neg Bool.false_ne_true] at q1 ⊢
    exact ⟨b, δ1, F1, _, _, wf1, r1, q1, fun c δ2 q2 v F2 H2 wf2 s2 r2 => k c δ2 q2 v F2 H2 wf2 (s1.trans s2) r2, fun er δ' hx => Xp.back s1 (kx er δ' hx)⟩
  | true =>
    rw [if_pos rfl] at q1 ⊢
    exact k _ δ1 q1 _ F1 H1 wf1 s1 r1 rfl
theorem tr_not {u : Wt} {σ : L2.St} {H : Hp} {Q : VK} (h : Tr K W (wNot u) σ H Q) : tNotV (Tr K W u) σ H Q := by
  obtain ⟨b, δ, F, Po, Px, wf, r, q, k, kx⟩ := h
  refine ⟨b, δ, F, _, _, wf, r, q, fun d δ1 q1 x F1 H1 wf1 s1 r1 rx => ?_, kx⟩
  obtain ⟨c, rfl, q1⟩ := q1
  exact ⟨c, rx, k _ δ1 q1 _ F1 H1 wf1 s1 r1 rfl⟩
theorem tr_if {t : Wb} {u w : Wt} {σ : L2.St} {H : Hp} {Q : VK} (h : Tr K W (wIf t u w) σ H Q) : tIf (TrT K W t) (Tr K W u) (Tr K W w) σ H Q := by
  obtain ⟨b, δ, F, Po, Px, wf, r, q, k, kx⟩ := h
  refine ⟨b, δ, F, _, _, wf, r, q, fun c δ1 q1 F1 H1 wf1 s1 r1 => ?_, kx⟩
  cases c with
  | true =>
    rw [if_pos rfl] at q1 ⊢
    exact ⟨b, δ1, F1, _, _, wf1, r1, q1, fun c δ2 q2 v F2 H2 wf2 s2 r2 => k c δ2 q2 v F2 H2 wf2 (s1.trans s2) r2, fun er δ' hx => Xp.back s1 (kx er δ' hx)⟩
  | false =>
    rw [if_neg Bool.false_ne_true] at q1 ⊢
    exact ⟨b, δ1, F1, _, _, wf1, r1, q1, fun c δ2 q2 v F2 H2 wf2 s2 r2 => k c δ2 q2 v F2 H2 wf2 (s1.trans s2) r2, fun er δ' hx => Xp.back s1 (kx er δ' hx)⟩
theorem x_one {op : BoolOp} {u : Wt} (h : PE X a (Tr K W u)) : PE X (.BoolOp op [a] pos) (Tr K W u) := pe_one h
theorem x_and {u w : Wt} {rest : List Expr} (h : PE X a (Tr K W u)) (h' : PE X (.BoolOp .And (b :: rest) pos) (Tr K W w)) : PE X (.BoolOp .And (a :: b :: rest) pos) (Tr K W (wAnd u w)) := pe_imp (pe_and h h') fun _ _ _ => tr_and
theorem x_or {u w : Wt} {rest : List Expr} (h : PE X a (Tr K W u)) (h' : PE X (.BoolOp .Or (b :: rest) pos) (Tr K W w)) : PE X (.BoolOp .Or (a :: b :: rest) pos) (Tr K W (wOr u w)) := pe_imp (pe_or h h') fun _ _ _ => tr_or
theorem x_not {u : Wt} (h : PE X a (Tr K W u)) : PE X (.UnaryOp .Not a pos) (Tr K W (wNot u)) := pe_imp (pe_not h) fun _ _ _ => tr_not
theorem x_if {t : Wb} {u w : Wt} (h : PT X c (TrT K W t)) (h1 : PE X a (Tr K W u)) (h2 : PE X b (Tr K W w)) : PE X (.IfExp c a b pos) (Tr K W (wIf t u w)) := pe_imp (pe_ifExp h h1 h2) fun _ _ _ => tr_if

/-! ### argument lists, displays -/
def wNil : Wa := fun δ Q _ => Q [] δ
def wCons (u : Wt) (w : Wa) : Wa := fun δ Q Y => u δ (fun d δ1 => w δ1 (fun as δ2 => Q (.d d :: as) δ2) Y) Y
/-- a slot that owns its thing is handed in -/
def wIn (j : Nat) (w : Wa) : Wa := fun δ Q Y => (∃ s, δ[j]? = some s ∧ s.owned = true) ∧ w δ (fun as δ2 => Q (.s j :: as) δ2) Y
theorem xa_nil : PA X [] (TrA K W wNil) := pa_imp pa_nil fun σ H Q h => by
  obtain ⟨b, δ, F, Po, Px, wf, r, q, k, kx⟩ := h
  exact k _ _ q _ F H wf (Same.refl _) r .nil
theorem xa_cons {u : Wt} {w : Wa} (h : PE X e (Tr K W u)) (h' : PA X es (TrA K W w)) (hs : starEach (e :: es) X.env = (false, eval e X.env) :: starEach es X.env := by rfl) : PA X (e :: es) (TrA K W (wCons u w)) := pa_imp (pa_cons h h' hs) fun σ H Q h => by
  obtain ⟨b, δ, F, Po, Px, wf, r, q, k, kx⟩ := h
  refine ⟨b, δ, F, _, _, wf, r, q, fun d δ1 q1 x F1 H1 wf1 s1 r1 rx => ?_, kx⟩
  exact ⟨b, δ1, F1, _, _, wf1, r1, q1, fun as δ2 q2 vs F2 H2 wf2 s2 r2 ra => k _ δ2 q2 _ F2 H2 wf2 (s1.trans s2) r2 (.cons (rx.mono s2) ra), fun er δ' hx => Xp.back s1 (kx er δ' hx)⟩
theorem xa_in (j : Nat) {x : Str} {w : Wa} (h' : PA X es (TrA K W w)) (hN : X.N[j]? = some x := by rfl) (hv : Vis X.env.scope x := by first | exact Or.inl rfl | exact Or.inr (Or.inl rfl) | exact Or.inr (Or.inr rfl)) (hd : (x == ("__debug__" : Str)) = false := by decide)
    (hcd : (x == ("__classdict__" : Str)) = false := by decide) (hs : starEach (.Name x pos :: es) X.env = (false, eval (.Name x pos) X.env) :: starEach es X.env := by rfl) : PA X (.Name x pos :: es) (TrA K W (wIn j w)) := pa_imp (pa_cons (pe_var hN hv hd hcd) h' hs) fun σ H Q h => by
  obtain ⟨b, δ, F, Po, Px, wf, r, ⟨⟨s, hs, o⟩, q⟩, k, kx⟩ := h
  obtain ⟨p, hp, _⟩ := r.own hs o
  refine ⟨_, hp, ?_⟩
  exact ⟨b, δ, F, _, _, wf, r, q, fun as δ2 q2 vs F2 H2 wf2 s2 r2 ra => k _ δ2 q2 _ F2 H2 wf2 s2 r2 (.cons hp ra), fun er δ' hx => kx er δ' hx⟩
/-- arguments that are trees alone -/
def trees : List A → Option (List D)
  | [] => some []
  | .d d :: as => (trees as).map (d :: ·)
  | .s _ :: _ => none
theorem reps_of {F : Hp} {σ : L2.St} : ∀ {as : List A} {vs : List V} {ds : List D}, Paired (RepA K F σ) as vs → trees as = some ds → Reps K F ds vs
  | [], _, ds, .nil, h => by cases h; rfl
  | .d d :: as, _, ds, .cons r ra, h => by
    unfold trees at h
    cases q : trees as with
    | none => rw [q] at h; cases h
    | some es =>
      rw [q] at h
      cases h
      exact .cons r (reps_of ra q)
  | .s j :: as, _, ds, _, h => by cases h
def wTup (w : Wa) : Wt := fun δ Q Y => w δ (fun as δ1 => ∃ ds, trees as = some ds ∧ ds.length ≤ 1000 ∧ Q (.tup ds) δ1) Y
def wLst (w : Wa) : Wt := fun δ Q Y => w δ (fun as δ1 => ∃ ds, trees as = some ds ∧ ds.length ≤ 1000 ∧ Q (.lst ds) δ1) Y
/-- a list of its own -/
def wLstO (w : Wa) : Wl := fun δ Q Y => w δ (fun as δ1 => ∃ ds, trees as = some ds ∧ ds.length ≤ 1000 ∧ Q ds δ1) Y
theorem line1000 {n : Nat} (h : n ≤ 1000) : n ≤ sizeLine := Nat.le_of_lt (small1000 h)
theorem x_tup {w : Wa} {k : Nat} (h : PA X es (TrA K W w)) : PE X (.Tuple es k pos) (Tr K W (wTup w)) := pe_imp (pe_tup h) fun σ H Q h => by
  obtain ⟨b, δ, F, Po, Px, wf, r, q, k, kx⟩ := h
  refine ⟨b, δ, F, _, _, wf, r, q, fun as δ1 q1 vs F1 H1 wf1 s1 r1 ra => ?_, kx⟩
  obtain ⟨ds, hd, hl, q2⟩ := q1
  have rr := reps_of ra hd
  refine ⟨by rw [rr.length]; exact line1000 hl, fun p np => ?_⟩
  have ex := Ext.new1 (o := .tup vs) wf1.fh np
  exact k _ δ1 q2 _ _ _ (wf1.ext ex) (s1.trans ex.ff) (r1.ext ex) ⟨p, vs, rfl, .inl (.inl upd_same), rr.mono ex.ff⟩
theorem x_lst {w : Wa} (h : PA X es (TrA K W w)) : PE X (.List es pos) (Tr K W (wLst w)) := pe_imp (pe_lst h) fun σ H Q h => by
  obtain ⟨b, δ, F, Po, Px, wf, r, q, k, kx⟩ := h
  refine ⟨b, δ, F, _, _, wf, r, q, fun as δ1 q1 vs F1 H1 wf1 s1 r1 ra => ?_, kx⟩
  obtain ⟨ds, hd, hl, q2⟩ := q1
  have rr := reps_of ra hd
  refine ⟨by rw [rr.length]; exact line1000 hl, fun p np => ?_⟩
  have ex := Ext.new1 (o := .lst vs) wf1.fh np
  exact k _ δ1 q2 _ _ _ (wf1.ext ex) (s1.trans ex.ff) (r1.ext ex) ⟨p, vs, rfl, .inl (.inl upd_same), rr.mono ex.ff⟩
theorem newAt {b : B} {δ : List S} {σ : L2.St} {F H : Hp} {p : Addr} {vs : List V} {ds : List D} (wf : Wf b F H) (r : Rs K b δ σ F H) (np : H p = none) (rr : Reps K F ds vs) :
    Wf b F (upd H p (.lst vs)) ∧ Rs K b δ σ F (upd H p (.lst vs)) ∧ NewAt K b δ σ F (upd H p (.lst vs)) ds p := by
  have ex := Ext.beside (o := .lst vs) wf.fh np
  refine ⟨wf.ext ex, r.ext ex, ⟨wf.fh.free np, vs, upd_same, rr⟩, wf.live p np, fun j s hj o e => ?_⟩
  obtain ⟨q, hq, ho, _⟩ := r.own hj o
  rw [hq] at e
  have e' : q = p := by cases e; rfl
  subst e'
  obtain ⟨_, ho⟩ := ho
  cases s with
  | no => cases o
  | v d => cases o
  | ex _ _ _ _ _ => cases o
  | ol k xs => obtain ⟨_, h1, _⟩ := ho; rw [np] at h1; cases h1
  | oo k c ns xs => obtain ⟨_, _, h1, _⟩ := ho; rw [np] at h1; cases h1
theorem xl_lst {w : Wa} (h : PA X es (TrA K W w)) : PE X (.List es pos) (TrL K W (wLstO w)) := pe_imp (pe_lst h) fun σ H Q h => by
  obtain ⟨b, δ, F, Po, Px, wf, r, q, k, kx⟩ := h
  refine ⟨b, δ, F, _, _, wf, r, q, fun as δ1 q1 vs F1 H1 wf1 s1 r1 ra => ?_, kx⟩
  obtain ⟨ds, hd, hl, q2⟩ := q1
  have rr := reps_of ra hd
  refine ⟨by rw [rr.length]; exact line1000 hl, fun p np => ?_⟩
  obtain ⟨z1, z2, z3⟩ := newAt wf1 r1 np rr
  exact k _ δ1 q2 p F1 _ z1 s1 z2 z3
/-- a list of its own that is let go: from now on a tree -/
def wFz (w : Wl) : Wt := fun δ Q Y => w δ (fun xs δ1 => Q (.lst xs) δ1) Y
theorem freeze {b : B} {δ : List S} {σ : L2.St} {F H : Hp} {xs : List D} {p : Addr} (wf : Wf b F H) (r : Rs K b δ σ F H) (n : NewAt K b δ σ F H xs p) :
    ∃ F', Wf b F' H ∧ Same F F' ∧ Rs K b δ σ F' H ∧ Rep K F' (.lst xs) (.ref p) := by
  obtain ⟨⟨nF, vs, hp, rr⟩, h0, nj⟩ := n
  have sF : Same F (upd F p (.lst vs)) := fun a o e => by rw [upd_ne (ne_of_none e nF)]; exact e
  have fh : Same (upd F p (.lst vs)) H := fun a o e => by
    by_cases q : a = p
    · subst q; rw [upd_same] at e; cases e; exact hp
    · rw [upd_ne q] at e; exact wf.fh a o e
  refine ⟨upd F p (.lst vs), ⟨fh, wf.ff.trans sF, wf.keep, fun a o e => ?_, wf.live, wf.pn⟩, sF, ⟨r.len, fun i s x h1 h2 => ?_, r.sep⟩, p, vs, rfl, .inl (.inl upd_same), rr.mono sF⟩
  · by_cases q : a = p
    · subst q; exact .inr h0
    · rw [upd_ne q] at e; exact wf.new a o e
  · have z := r.sl i s x h1 h2
    have own : ∀ q, s.owned = true → x = some (.ref q) → Own K F H s q → Own K (upd F p (.lst vs)) H s q := fun q o hx w => by
      have hne : q ≠ p := fun e => nj i s h1 o (by rw [h2, hx, e])
      obtain ⟨w1, w2⟩ := w
      refine ⟨by rw [upd_ne hne]; exact w1, ?_⟩
      cases s with
      | no => cases o
      | v d => cases o
      | ex _ _ _ _ _ => cases o
      | ol k ys => obtain ⟨us, a1, a2⟩ := w2; exact ⟨us, a1, a2.mono sF⟩
      | oo k c ns ys => obtain ⟨dx, us, a1, a3, a2⟩ := w2; exact ⟨dx, us, a1, a3, a2.mono sF⟩
    cases s with
    | no => trivial
    | v d => obtain ⟨v, a1, a2⟩ := z; exact ⟨v, a1, a2.mono sF⟩
    | ex a c d ns ys => obtain ⟨h1, h2⟩ := z; exact ⟨h1, fun dd hd => let ⟨vs, a1, a2⟩ := h2 dd hd; ⟨vs, sF _ _ a1, a2.mono sF⟩⟩
    | ol k ys => obtain ⟨q, a1, a2, a3⟩ := z; exact ⟨q, a1, own q rfl a1 a2, a3⟩
    | oo k c ns ys => obtain ⟨q, a1, a2, a3⟩ := z; exact ⟨q, a1, own q rfl a1 a2, a3⟩
theorem x_fz {w : Wl} (h : PE X e (TrL K W w)) : PE X e (Tr K W (wFz w)) := pe_imp h fun σ H Q h => by
  obtain ⟨b, δ, F, Po, Px, wf, r, q, k, kx⟩ := h
  refine ⟨b, δ, F, _, _, wf, r, q, fun xs δ1 q1 p F1 H1 wf1 s1 r1 n => ?_, kx⟩
  obtain ⟨F2, w2, s2, r2, rp⟩ := freeze wf1 r1 n
  exact k _ δ1 q1 _ F2 H1 w2 (s1.trans s2) r2 rp
end
end L3

set_option Elab.async false
set_option linter.all false
set_option maxRecDepth 100000
set_option maxHeartbeats 1000000
/-! calls where no repr is under way (the guards are empty) -/
namespace L2
open PySem PySem.Spec PyProof.Rows
structure RmG (k : Nat) (A : Around) : Prop where
  r : Room k A
  g : A.guards = some []
theorem RmG.mono {j k : Nat} {A : Around} (r : RmG k A) (h : j ≤ k) : RmG j A := ⟨r.r.mono h, r.g⟩
theorem RmG.in1 {k : Nat} {A : Around} (r : RmG (k + 1) A) : RmG k A.in1 := ⟨r.r.in1, r.g⟩
theorem RmG.make {k : Nat} {A : Around} (r : RmG (k + 1) A) (C : Addr) (us : List Value) (kw : List (Str × Value)) : RmG k (A.under (.builtin "type.__call__" ⟨.ref C :: us, kw⟩)) := ⟨r.r.make C us kw, r.g⟩
structure FnG (P : Program) (w : World) (K : PySem.W.Frag) (mg : Str → Option Value) (base : Heap) (CX : CXT) (k : Nat) (f : Addr) (fd : FuncData) (ps : List Str) (sp : Sp) : Prop where
  len : ∀ vs H Q E, sp vs H Q E → vs.length = ps.length
  run : ∀ (A : Around) (outer : List Env) (s : Shared) (H : Hp) (args : Args) (us : List Value) (vs : List V) (Q : VK) (E : XK), RmG k A → Env0 P w K mg base A outer s H → BindsTo s fd args (ps.zip us) → Vals vs us → sp vs H Q E →
    codeAny (model P w) A (.call (.ref f) args) (CR CX outer P w H s Q E) s
theorem fnG_of {CX : CXT} {P : Program} {w : World} {K : PySem.W.Frag} {mg : Str → Option Value} {base : Heap} {k : Nat} {f : Addr} {name qual : Str} {params : Arguments} {body : List Stmt} {scope : Scope} {dV kV doc pm cdv ct oc : Value} {an od : Option Addr}
    {osl : Array (Option Value)} {N ps : List Str} {sp : Sp} (lk : K.lookup f = some ⟨oc, od, .func (PySem.W.fnOf name qual params body scope dV kV doc pm an cdv ct), osl⟩) (hcd : PySem.W.codeIn K cdv qual = true) (S : FnScope N ps scope)
    (len : ∀ vs H Q E, sp vs H Q E → vs.length = ps.length)
    (hbody : ∀ (A : Around) (outer : List Env) (s : Shared) (H : Hp) (vs : List V) (Q : VK) (E : XK), RmG k (A.deeper (envOfC qual scope s.heap.objs.size f cdv)) → sp vs H Q E →
      ∃ t, PSs (cxOf CX P w K mg base N qual scope f cdv A outer s H E) body t ∧ t { nx := fun _ H' => Q .non H', rt := Q } (start N vs) H) :
    FnG P w K mg base CX (k + 1) f (PySem.W.fnOf name qual params body scope dV kV doc pm an cdv ct) ps sp := by
  refine ⟨len, fun A outer s H args us vs Q E hrg e0 hb r hsp => ?_⟩
  have hr := hrg.r
  have hl := len _ _ _ _ hsp
  have inb : ∀ b o, base.get? b = some o → s.heap.get? b = some o := fun b o e => (e0.bs b o e).1
  have KX := e0.mod.kin.keeps inb
  have lim := e0.mod.nolimit.keeps inb
  have hkind : ∀ y ∈ ps.zip us, scope.names.lookup y.1 = some .local ∨ (scope.names.lookup y.1 = some .cell ∧ ((cellsFrom (s.heap.objs.size + 1) scope.names []).lookup y.1).isSome = true) := by
    rintro ⟨n, v⟩ hy
    rcases S.par n (List.of_mem_zip hy).1 with q | q
    · exact .inl q
    · exact .inr ⟨q, PySem.W.cellsFrom_some _ _ _ (.inl q)⟩
  refine codeAny_call_function hr.depth (KX _ _ lk) rfl S.co S.gen rfl (PySem.W.codeRec_of KX hcd) (hb _ _ _ _ ?_)
  refine wpAny_newFunctionEnv_cells S.kind hkind fun env he s1 x => ?_
  subst he
  refine ⟨lim.keeps x.toInCall.keep, codeAny_func ?_⟩
  obtain ⟨t, ht, hq⟩ := hbody A outer s H vs Q E ⟨hr.deeper _, hrg.g⟩ hsp
  have J := inv_start (CX := CX) (E := E) S hr.hd e0 hl r x
  refine wpAny_mono (ht.run [] s1 (start N vs) H _ J hq) (fun fl s' hs => ?_) fun e s' hs => hs
  cases fl with
  | ret u =>
    obtain ⟨v, σ', H', J', rv, q⟩ := hs
    exact ⟨v, H', J'.os, J'.bare, J'.base, J'.hok, rv, q⟩
  | next =>
    obtain ⟨σ', H', J', q⟩ := hs
    exact ⟨V.non, H', J'.os, J'.bare, J'.base, J'.hok, rfl, q⟩
  | brk => exact False.elim hs.choose_spec.choose_spec.2
  | cont => exact False.elim hs.choose_spec.choose_spec.2
section
variable {X : Cx} {CX : CXT} {k n : Nat} {f C g pp : Addr} {fd : FuncData} {ps ks : List Str} {sp : Sp} {dvs : List V} {ds : List Value} {E : St → XK} {E1 : XK} {x m : Str} {p pos apos : Pos} {e o : Expr} {es : List Expr} {ta : TE} {t tk : TA} {kws : List Keyword}
  {gg : List Value → List Value → List Value} {gV : List V → List V → List V}
/-- the end of a call -/
theorem endG {A : Around} {pins : List (Addr × Obj)} {σ : St} {H : Hp} {s : Shared} {Q : VK} {E0' : XK} {E2 : Value → Shared → Prop} {args : Args} (I : Inv X pins σ H s) (hx : ∀ e s', CX X.stack H s E0' e s' → E2 e s') (c : codeAny (model X.prog X.w) A (.call (.ref f) args) (CR CX X.stack X.prog X.w H s Q E0') s) :
    codeAny (model X.prog X.w) A (.call (.ref f) args) (fun r s' => match r with | .ok (.ret u) => EP X pins σ Q u s' | .ok _ => False | .error e => E2 e s') s := codeAny_mono c fun r s' hq => by
  cases r with
  | error e => exact hx e s' hq
  | ok fl =>
    cases fl with
    | ret u => exact I.after hq
    | next => exact hq
    | brk => exact hq
    | cont => exact hq
theorem run_G {pins : List (Addr × Obj)} {σ : St} {H : Hp} {s : Shared} {Q : VK} {us : List Value} {vs : List V} (F : FnG X.prog X.w X.K X.mg X.base CX k f fd ps sp) (hr : RmG k X.A) (hb : Binds X.K fd ps ds) (hd : Vals dvs ds) (hx : PassesAt CX X σ (E σ))
    (I : Inv X pins σ H s) (r : Vals vs us) (h : sp (vs ++ dvs) H Q (E σ)) : wpAny (model X.prog X.w) X.A (call (.ref f) us) (EP X pins σ Q) X.xe s := by
  have r2 : Vals (vs ++ dvs) (us ++ ds) := r.append hd
  have hl : (us ++ ds).length = ps.length := r2.length.symm.trans (F.len _ _ _ _ h)
  refine wpAny_call (codeAny_mono (F.run X.A X.stack s H ⟨us, []⟩ (us ++ ds) (vs ++ dvs) Q (E σ) hr I.env0 (hb s us I.kIn hl) r2 h) ?_)
  rintro (e | fl) s' hq
  · exact hx pins H s e s' I hq
  · cases fl <;> first | exact I.after hq | exact False.elim hq
theorem pe_callG (F : FnG X.prog X.w X.K X.mg X.base CX k f fd ps sp) (hr : RmG k X.A) (hg : Gl X x) (hm : X.mg x = some (.ref f)) (hk : PySem.W.keepIn X.K (.ref f) = true) (hb : Binds X.K fd ps ds) (hd : Vals dvs ds) (hx : ∀ σ, PassesAt CX X σ (E σ)) (ha : PA X (e :: es) t)
    (hdb : (x == ("__debug__" : Str)) = false := by decide) (he : starEach (e :: es) X.env = (false, eval e X.env) :: starEach es X.env := by rfl) (hpl : (backTo pos (starEach es X.env)).any (·.1) = false := by rfl) : PE X (.Call (.Name x p) (e :: es) [] pos) (tCallSD sp dvs E t) :=
  ⟨fun pins s σ H Q I h => wpAny_Call_Name_kw (ld_glob I hg hm (PySem.W.callWith_K (h₀ := X.base) I.ok.mod.kin hk (thn (ha.run pos pins s σ H _ I h) fun us s1 ⟨vs, H1, I1, r, q⟩ => ⟨I1.kIn, run_G F hr hb hd (hx σ) I1 r q⟩) he hpl) hdb)⟩
theorem pe_callG0 (F : FnG X.prog X.w X.K X.mg X.base CX k f fd ps sp) (hr : RmG k X.A) (hg : Gl X x) (hm : X.mg x = some (.ref f)) (hk : PySem.W.keepIn X.K (.ref f) = true) (hb : Binds X.K fd ps ds) (hd : Vals dvs ds) (hx : ∀ σ, PassesAt CX X σ (E σ))
    (hdb : (x == ("__debug__" : Str)) = false := by decide) : PE X (.Call (.Name x p) [] [] pos) (tCallSD sp dvs E tNil) :=
  ⟨fun pins s σ H Q I h => wpAny_Call_Name_kw (ld_glob I hg hm (PySem.W.callWith_K0 I.kIn hk (run_G (us := []) F hr hb hd (hx σ) I .nil h)) hdb)⟩
/-- o.m(..), what is raised is wished for at the caller's slots -/
def tMethD (C : Addr) (m : Str) (sp : Sp) (dvs : List V) (E : St → XK) (ta : TE) (t : TA) : TE := fun σ H Q => ta σ H fun x H1 => ∃ a dx fs, x = .ref a ∧ H1 a = some (.ins C dx fs) ∧ fs.lookup m = none ∧
  t σ H1 fun vs H2 => sp (x :: (vs ++ dvs)) H2 Q (E σ)
theorem pe_methG {pl : Sem Bool} (he : PE X o ta) (c : Cls X.K C) (hm : Meth X.K C m f) (F : FnG X.prog X.w X.K X.mg X.base CX k f fd ps sp) (hr : RmG k X.A) (hb : Binds X.K fd ps ds) (hd : Vals dvs ds) (hx : ∀ σ, PassesAt CX X σ (E σ)) (ha : PA X (e :: es) t)
    (hst : starEach (e :: es) X.env = (false, eval e X.env) :: starEach es X.env := by rfl) (hpl : (backTo pos (starEach es X.env)).any (·.1) = false := by rfl)
    (ht : eval (.Call (.Attribute o m apos) (e :: es) [] pos) X.env = (do
      let ov ← eval o X.env
      standAt apos.atName
      let (f, first) ← holding [ov] (getMethod ov m pl)
      callWith pos f first (backTo pos (starEach (e :: es) X.env)) (backToKw pos (keywordEach [] X.env))) := by rfl) : PE X (.Call (.Attribute o m apos) (e :: es) [] pos) (tMethD C m sp dvs E ta t) := ⟨fun pins s σ H Q I h => by
  refine PySem.W.methodCall_KW (pl := pl) (thn (he.run pins s σ H _ I h) ?_) ht
  rintro u s1 ⟨_, H1, I1, rx, a, dx, fs, rfl, ea, l, q⟩
  cases (show u = Value.ref a from rx)
  refine getmeth_ok I1 ea c hm l (PySem.W.callWith_K (first := [.ref a]) (h₀ := X.base) I.ok.mod.kin hm.kp (thn (ha.run pos pins s1 σ H1 _ I1 q) ?_) hst hpl)
  rintro us s2 ⟨vs, H2, I2, r, q2⟩
  exact ⟨I2.kIn, run_G (us := .ref a :: us) (vs := .ref a :: vs) F hr hb hd (hx σ) I2 (.cons rfl r) q2⟩⟩
theorem pe_methG0 {pl : Sem Bool} (he : PE X o ta) (c : Cls X.K C) (hm : Meth X.K C m f) (F : FnG X.prog X.w X.K X.mg X.base CX k f fd ps sp) (hr : RmG k X.A) (hb : Binds X.K fd ps ds) (hd : Vals dvs ds) (hx : ∀ σ, PassesAt CX X σ (E σ))
    (ht : eval (.Call (.Attribute o m apos) [] [] pos) X.env = (do
      let ov ← eval o X.env
      standAt apos.atName
      let (f, first) ← holding [ov] (getMethod ov m pl)
      callWith pos f first (backTo pos (starEach [] X.env)) (backToKw pos (keywordEach [] X.env))) := by rfl) : PE X (.Call (.Attribute o m apos) [] [] pos) (tMethD C m sp dvs E ta tNil) := ⟨fun pins s σ H Q I h => by
  refine PySem.W.methodCall_KW (pl := pl) (thn (he.run pins s σ H _ I h) ?_) ht
  rintro u s1 ⟨_, H1, I1, rx, a, dx, fs, rfl, ea, l, q⟩
  cases (show u = Value.ref a from rx)
  exact getmeth_ok I1 ea c hm l (PySem.W.callWith_K0 (first := [.ref a]) I1.kIn hm.kp (run_G (us := [.ref a]) (vs := [.ref a]) F hr hb hd (hx σ) I1 (.cons rfl .nil) q))⟩
def tMakeD (C : Addr) (sp : Sp) (dvs : List V) (E : St → XK) (t : TA) : TE := fun σ H Q => t σ H fun vs H1 => ∀ x dx, H1 x = none → H1 dx = none → dx ≠ x →
  sp (.ref x :: (vs ++ dvs)) (upd (upd H1 dx (.own x)) x (.ins C dx [])) (fun v H2 => v = .non ∧ Q (.ref x) H2) (E σ)
theorem run_makeG {pins : List (Addr × Obj)} {σ : St} {H : Hp} {s : Shared} {Q : VK} {us : List Value} {vs : List V} (M : Mk X.K C f) (F : FnG X.prog X.w X.K X.mg X.base CX k f fd ps sp) (hr : RmG (k + 1) X.A) (hb : Binds X.K fd ps ds) (hd : Vals dvs ds)
    (hx : PassesAt CX X σ (E σ)) (I : Inv X pins σ H s) (r : Vals vs us)
    (h : ∀ x dx, H x = none → H dx = none → dx ≠ x → sp (.ref x :: (vs ++ dvs)) (upd (upd H dx (.own x)) x (.ins C dx [])) (fun v H2 => v = .non ∧ Q (.ref x) H2) (E σ)) :
    wpAny (model X.prog X.w) X.A (call (.ref C) us) (EP X pins σ Q) X.xe s := by
  have hq := h (s.heap.objs.size + 1) s.heap.objs.size (I.hok.fresh (Nat.le_succ _)) (I.hok.fresh (Nat.le_refl _)) (Nat.ne_of_lt (Nat.lt_succ_self _))
  have J := Inv.made (C := C) I
  have r2 : Vals (V.ref (s.heap.objs.size + 1) :: (vs ++ dvs)) (Value.ref (s.heap.objs.size + 1) :: (us ++ ds)) := .cons rfl (r.append hd)
  have hl : (Value.ref (s.heap.objs.size + 1) :: us ++ ds).length = ps.length := r2.length.symm.trans (F.len _ _ _ _ hq)
  refine wpAny_call (make_map (f := f) I.kIn M.makes M.init (beq_iff_eq.mp M.fn) (codeAny_mono (F.run _ X.stack _ _ ⟨Value.ref (s.heap.objs.size + 1) :: us, []⟩ (Value.ref (s.heap.objs.size + 1) :: (us ++ ds)) _ _ (E σ) (hr.make C us [])
    (J.env0.make C us []) (hb _ (Value.ref (s.heap.objs.size + 1) :: us) J.kIn hl) r2 hq) ?_))
  rintro (e | fl) s' hq'
  · exact hx pins _ _ e s' J hq'
  · cases fl with
    | ret u =>
      obtain ⟨v, H', J3, rv, rfl, q3⟩ := J.after hq'
      exact ⟨rv, ⟨V.ref (s.heap.objs.size + 1), H', J3, rfl, q3⟩⟩
    | next => exact False.elim hq'
    | brk => exact False.elim hq'
    | cont => exact False.elim hq'
theorem pe_makeG (M : Mk X.K C f) (F : FnG X.prog X.w X.K X.mg X.base CX k f fd ps sp) (hr : RmG (k + 1) X.A) (hg : Gl X x) (hm : X.mg x = some (.ref C)) (hb : Binds X.K fd ps ds) (hd : Vals dvs ds) (hx : ∀ σ, PassesAt CX X σ (E σ))
    (ha : PA X (e :: es) t) (hdb : (x == ("__debug__" : Str)) = false := by decide) (he : starEach (e :: es) X.env = (false, eval e X.env) :: starEach es X.env := by rfl) (hpl : (backTo pos (starEach es X.env)).any (·.1) = false := by rfl) : PE X (.Call (.Name x p) (e :: es) [] pos) (tMakeD C sp dvs E t) :=
  ⟨fun pins s σ H Q I h => wpAny_Call_Name_kw (ld_glob I hg hm (PySem.W.callWith_K (h₀ := X.base) I.ok.mod.kin M.kp (thn (ha.run pos pins s σ H _ I h) fun us s1 ⟨vs, H1, I1, r, q⟩ => ⟨I1.kIn, run_makeG M F hr hb hd (hx σ) I1 r q⟩) he hpl) hdb)⟩
/-- e.f, a property -/
theorem pe_propG (he : PE X e ta) (c : Cls X.K C) (hp : PropOf X.K C m pp g) (F : FnG X.prog X.w X.K X.mg X.base CX k g fd ps sp) (hr : RmG (k + 1) X.A) (hb : Binds X.K fd ps ds) (hd : Vals dvs ds) (hx : Passes CX X.nox E1)
    (hab : attributeBase e m X.env (eval e X.env) = eval e X.env) : PE X (.Attribute e m pos) (tProp C sp dvs E1 ta) := ⟨fun pins s σ H Q I h => by
  refine attr_of hab (thn (he.run pins s σ H _ I h) ?_)
  rintro u s1 ⟨_, H1, I1, rx, a, dx, fs, rfl, ea, q⟩
  cases (show u = Value.ref a from rx)
  obtain ⟨mA, O, _, _, _, _⟩ := ins_get I1.hok ea
  obtain ⟨od, J, _⟩ := O.look
  obtain ⟨rest, hrec⟩ := hp.rec_
  have I2 := I1.tok (s1.toks + 1)
  have hl : ([Value.ref a] ++ ds).length = ps.length := by
    have := F.len _ _ _ _ q
    rw [List.length_append, ← hd.length, ← this, List.length_cons]; exact Nat.add_comm _ _
  have hc : (PySem.W.clsIn X.K C).isSome = true := by
    obtain ⟨cd, hc, _⟩ := PySem.W.any_some c.hd
    rw [hc]; rfl
  refine PySem.W.get_bind I1.kIn J (PySem.W.plainGet_of (c.get m)).1 (PySem.W.findObj_data hc hp.at_ hp.get hp.tak) (PySem.W.plainGet_of (c.get m)).2 (wpAny_call (PySem.W.prop_get (s := { s1 with toks := s1.toks + 1 }) I1.kIn hrec ?_))
  refine codeAny_mono (F.run X.A.in1 X.stack { s1 with toks := s1.toks + 1 } H1 ⟨[.ref a], []⟩ (.ref a :: ds) (.ref a :: dvs) Q E1 hr.in1 I2.env0.in1 (hb _ [.ref a] I2.kIn hl) (.cons rfl hd) q) ?_
  rintro (er | fl) s' hq
  · exact False.elim (hx pins σ H1 { s1 with toks := s1.toks + 1 } er s' (I2.wish _) hq)
  · cases fl with
    | ret u =>
      obtain ⟨v, H', I3, rv, q3⟩ := I2.after hq
      show wpAny _ _ (handedOut u) _ _ _
      rw [PySem.W.handedOut_of (handed_of rv)]
      exact wpAny_pure ⟨v, H', I3, rv, q3⟩
    | next => exact False.elim hq
    | brk => exact False.elim hq
    | cont => exact False.elim hq⟩
/-! by keywords alone -/
def tCallW (sp : Sp) (gV : List V → List V) (m : Nat) (E : XK) (tk : TA) : TE := fun σ H Q => tk σ H fun zs H2 => zs.length = m ∧ sp (gV zs) H2 Q E
theorem pe_callW (F : FnG X.prog X.w X.K X.mg X.base CX k f fd ps sp) (hr : RmG k X.A) (hg : Gl X x) (hm : X.mg x = some (.ref f)) (hk : PySem.W.keepIn X.K (.ref f) = true) (hb : KBn X.K fd ps 0 ks gg gV) (hx : Passes CX X E1) (hkw : PK X kws tk)
    (hall : (backToKw pos (keywordEach kws X.env)).all (·.1.isSome) = true := by rfl) (hks : (backToKw pos (keywordEach kws X.env)).filterMap (·.1) = ks := by rfl) (hdb : (x == ("__debug__" : Str)) = false := by decide)
    (hpl : ((backTo pos (starEach [] X.env)).any (·.1) || (backToKw pos (keywordEach kws X.env)).any (·.1.isNone)) = false := by rfl) : PE X (.Call (.Name x p) [] kws pos) (tCallW sp (gV []) ks.length E1 tk) := ⟨fun pins s σ H Q I h => by
  refine wpAny_Call_Name_kw (ld_glob I hg hm ?_ hdb)
  refine PySem.W.callWith_KW0 (h₀ := X.base) I.ok.mod.kin hk hall ?_ hpl
  refine thn (hkw.run pos pins s σ H _ I h) ?_
  rintro ws s2 ⟨zs, H2, I2, rz, l2, q2⟩
  refine ⟨I2.kIn, ?_⟩
  rw [hks]
  have r2 := hb.rel (.nil : Vals [] []) rz
  refine wpAny_call (codeAny_mono (F.run X.A X.stack s2 H2 ⟨[], ks.zip ws⟩ (gg [] ws) (gV [] zs) Q E1 hr I2.env0 (hb.to s2 [] ws I2.kIn rfl (rz.length.symm.trans l2)) r2 q2) ?_)
  rintro (e | fl) s' hq
  · exact hx pins σ H2 s2 e s' I2 hq
  · cases fl <;> first | exact I2.after hq | exact False.elim hq⟩
def tMakeW (C : Addr) (sp : Sp) (gV : List V → List V → List V) (m : Nat) (E : XK) (tk : TA) : TE := fun σ H Q => tk σ H fun zs H1 => zs.length = m ∧ ∀ x dx, H1 x = none → H1 dx = none → dx ≠ x →
  sp (gV [.ref x] zs) (upd (upd H1 dx (.own x)) x (.ins C dx [])) (fun v H2 => v = .non ∧ Q (.ref x) H2) E
theorem pe_makeW (M : Mk X.K C f) (F : FnG X.prog X.w X.K X.mg X.base CX k f fd ps sp) (hr : RmG (k + 1) X.A) (hg : Gl X x) (hm : X.mg x = some (.ref C)) (hb : KBn X.K fd ps 1 ks gg gV) (hx : Passes CX X E1) (hkw : PK X kws tk)
    (hall : (backToKw pos (keywordEach kws X.env)).all (·.1.isSome) = true := by rfl) (hks : (backToKw pos (keywordEach kws X.env)).filterMap (·.1) = ks := by rfl) (hdb : (x == ("__debug__" : Str)) = false := by decide)
    (hpl : ((backTo pos (starEach [] X.env)).any (·.1) || (backToKw pos (keywordEach kws X.env)).any (·.1.isNone)) = false := by rfl) : PE X (.Call (.Name x p) [] kws pos) (tMakeW C sp gV ks.length E1 tk) := ⟨fun pins s σ H Q I h => by
  refine wpAny_Call_Name_kw (ld_glob I hg hm ?_ hdb)
  refine PySem.W.callWith_KW0 (h₀ := X.base) I.ok.mod.kin M.kp hall ?_ hpl
  refine thn (hkw.run pos pins s σ H _ I h) ?_
  rintro ws s2 ⟨zs, H2, I2, rz, l2, q2⟩
  refine ⟨I2.kIn, ?_⟩
  rw [hks]
  have hq := q2 (s2.heap.objs.size + 1) s2.heap.objs.size (I2.hok.fresh (Nat.le_succ _)) (I2.hok.fresh (Nat.le_refl _)) (Nat.ne_of_lt (Nat.lt_succ_self _))
  have J := Inv.made (C := C) I2
  have r2 := hb.rel (.cons rfl .nil : Vals [V.ref (s2.heap.objs.size + 1)] [Value.ref (s2.heap.objs.size + 1)]) rz
  refine wpAny_call (make_map (f := f) I2.kIn M.makes M.init (beq_iff_eq.mp M.fn) (codeAny_mono (F.run _ X.stack _ _ ⟨[Value.ref (s2.heap.objs.size + 1)], ks.zip ws⟩ (gg [Value.ref (s2.heap.objs.size + 1)] ws) _ _ E1 (hr.make C [] (ks.zip ws))
    (J.env0.make C [] (ks.zip ws)) (hb.to _ [Value.ref (s2.heap.objs.size + 1)] ws J.kIn rfl (rz.length.symm.trans l2)) r2 hq) ?_))
  rintro (e | fl) s' hq'
  · exact hx pins σ _ _ e s' J hq'
  · cases fl with
    | ret u =>
      obtain ⟨v, H', J3, rv, rfl, q3⟩ := J.after hq'
      exact ⟨rv, ⟨V.ref (s2.heap.objs.size + 1), H', J3, rfl, q3⟩⟩
    | next => exact False.elim hq'
    | brk => exact False.elim hq'
    | cont => exact False.elim hq'⟩
end
end L2

set_option Elab.async false
set_option linter.all false
set_option maxRecDepth 100000
set_option maxHeartbeats 1000000
namespace L3
open PySem L2
section
variable {X : Cx} {K : PySem.W.Frag} {W : WX} {e a b c : Expr} {es : List Expr} {t : TE} {pos : Pos}

/-! ### slots stored -/
theorem Rs.set {b : B} {δ : List S} {σ : L2.St} {F H : Hp} {i : Nat} {s : S} {x : Option V} (r : Rs K b δ σ F H) (h : ∀ y, x = some y → SlotOk K b F H i (some y) s) (hx : x = none → s = .no)
    (ho : s.owned = true → ∀ p, x = some (.ref p) → ∀ (j : Nat) (t : S), j ≠ i → δ[j]? = some t → t.owned = true → σ[j]? ≠ some (some (.ref p))) : Rs K b (δ.set i s) (σ.set i x) F H := by
  refine ⟨by rw [List.length_set, List.length_set, r.len], fun j t y h1 h2 => ?_, fun j k t u p hjk h1 h2 o1 o2 h3 h4 => ?_⟩
  · by_cases e : i = j
    · subst e
      have hi : i < δ.length := by
        have := (List.getElem?_eq_some_iff.mp h1).1
        rwa [List.length_set] at this
      rw [List.getElem?_set_self hi] at h1
      rw [List.getElem?_set_self (show i < List.length σ by rw [r.len]; exact hi)] at h2
      cases h1; cases h2
      cases x with
      | some z => exact h z rfl
      | none => rw [hx rfl]; trivial
    · rw [List.getElem?_set_ne e] at h1 h2
      exact r.sl j t y h1 h2
  · have len1 : ∀ {k u}, (δ.set i s)[k]? = some u → k < δ.length := fun {k u} h => by
      have := (List.getElem?_eq_some_iff.mp h).1
      rwa [List.length_set] at this
    have l1 := len1 h1
    have l2 := len1 h2
    by_cases e : i = j
    · subst e
      rw [List.getElem?_set_self l1] at h1
      rw [List.getElem?_set_self (show i < List.length σ by rw [r.len]; exact l1)] at h3
      rw [List.getElem?_set_ne hjk] at h2 h4
      cases h1; cases h3
      exact ho o1 p rfl k u (fun z => hjk z.symm) h2 o2 h4
    · by_cases e2 : i = k
      · subst e2
        rw [List.getElem?_set_self l2] at h2
        rw [List.getElem?_set_self (show i < List.length σ by rw [r.len]; exact l2)] at h4
        rw [List.getElem?_set_ne e] at h1 h3
        cases h2; cases h4
        exact ho o2 p rfl j t hjk h1 o1 h3
      · rw [List.getElem?_set_ne e] at h1 h3
        rw [List.getElem?_set_ne e2] at h2 h4
        exact r.sep j k t u p hjk h1 h2 o1 o2 h3 h4
theorem Rs.setV {b : B} {δ : List S} {σ : L2.St} {F H : Hp} {i : Nat} {d : D} {v : V} (r : Rs K b δ σ F H) (h : Rep K F d v) : Rs K b (δ.set i (.v d)) (σ.set i (some v)) F H :=
  r.set (fun y e => by cases e; exact ⟨v, rfl, h⟩) (fun e => by cases e) (fun o => by cases o)
theorem Rs.setL {b : B} {δ : List S} {σ : L2.St} {F H : Hp} {i : Nat} {xs : List D} {p : Addr} (r : Rs K b δ σ F H) (n : NewAt K b δ σ F H xs p) : Rs K b (δ.set i (.ol false xs)) (σ.set i (some (.ref p))) F H :=
  r.set (fun y e => by cases e; exact ⟨p, rfl, n.1, n.2.1⟩) (fun e => by cases e) (fun o q e j t hj h1 o1 h2 => by cases e; exact n.2.2 j t h1 o1 h2)
theorem Rs.fin {b : B} {δ : List S} {σ : L2.St} {F H : Hp} (r : Rs K b δ σ F H) : Fin K b δ F H := fun i s p h hp hi => by
  have o : s.owned = true := by cases s <;> first | rfl | cases hi
  obtain ⟨q, _, h2, h3⟩ := r.own h o
  rw [hi, if_pos rfl, hp] at h3
  cases h3
  exact h2

/-! ### statements -/
def wSeq (u w : Ws) : Ws := fun δ E => u δ { E with nx := fun δ1 => w δ1 E }
theorem ts_seq {u w : Ws} {Dn : Ends} {σ : L2.St} {H : Hp} (h : TrS K W (wSeq u w) Dn σ H) : tSeq (TrS K W u) (TrS K W w) Dn σ H := by
  obtain ⟨b, δ, F, E, wf, r, q, k1, k2, k3, k4, k5⟩ := h
  refine ⟨b, δ, F, _, wf, r, q, fun δ1 q1 σ1 F1 H1 wf1 s1 r1 => ?_, k2, k3, k4, k5⟩
  exact ⟨b, δ1, F1, E, wf1, r1, q1, fun δ2 q2 σ2 F2 H2 wf2 s2 r2 => k1 δ2 q2 σ2 F2 H2 wf2 (s1.trans s2) r2, fun δ2 q2 σ2 F2 H2 wf2 s2 r2 => k2 δ2 q2 σ2 F2 H2 wf2 (s1.trans s2) r2, fun δ2 q2 σ2 F2 H2 wf2 s2 r2 => k3 δ2 q2 σ2 F2 H2 wf2 (s1.trans s2) r2,
    fun rv δ2 q2 v F2 H2 wf2 s2 => k4 rv δ2 q2 v F2 H2 wf2 (s1.trans s2), fun er δ2 q2 σ2 F2 H2 wf2 s2 r2 => k5 er δ2 q2 σ2 F2 H2 wf2 (s1.trans s2) r2⟩
theorem ss_cons {st : Stmt} {rest : List Stmt} {u w : Ws} (h1 : PS X st (TrS K W u)) (h2 : PSs X rest (TrS K W w)) : PSs X (st :: rest) (TrS K W (wSeq u w)) := pss_imp (pss_cons h1 h2) fun _ _ _ => ts_seq
theorem ss_one {st : Stmt} {u : Ws} (h1 : PS X st (TrS K W u)) : PSs X [st] (TrS K W u) := pss_one h1
def wNx : Ws := fun δ E => E.nx δ
theorem ts_nx {Dn : Ends} {σ : L2.St} {H : Hp} (h : TrS K W wNx Dn σ H) : tNext Dn σ H := by
  obtain ⟨b, δ, F, E, wf, r, q, k1, k2, k3, k4, k5⟩ := h
  exact k1 δ q σ F H wf (Same.refl _) r
theorem ss_nil : PSs X [] (TrS K W wNx) := pss_imp pss_nil fun _ _ _ => ts_nx
theorem s_pass : PS X (.Pass pos) (TrS K W wNx) := ps_imp ps_pass fun _ _ _ => ts_nx
theorem s_brk : PS X (.Break pos) (TrS K W fun δ E => E.bk δ) := ps_imp ps_break fun Dn σ H h => by
  obtain ⟨b, δ, F, E, wf, r, q, k1, k2, k3, k4, k5⟩ := h
  exact k2 δ q σ F H wf (Same.refl _) r
theorem s_cont : PS X (.Continue pos) (TrS K W fun δ E => E.ct δ) := ps_imp ps_continue fun Dn σ H h => by
  obtain ⟨b, δ, F, E, wf, r, q, k1, k2, k3, k4, k5⟩ := h
  exact k3 δ q σ F H wf (Same.refl _) r
/-- code that is not told -/
def wOff : Ws := fun _ _ => False
theorem s_off {st : Stmt} : PS X st (TrS K W wOff) := ps_imp ps_never fun Dn σ H h => by
  obtain ⟨b, δ, F, E, wf, r, q, _⟩ := h
  exact q.elim
theorem ss_off {st : List Stmt} : PSs X st (TrS K W wOff) := ⟨fun pins s σ H D I h => by
  obtain ⟨b, δ, F, E, wf, r, q, _⟩ := h
  exact q.elim⟩
def wSet (i : Nat) (u : Wt) : Ws := fun δ E => u δ (fun d δ1 => E.nx (δ1.set i (.v d))) E.xx
def wSetL (i : Nat) (u : Wl) : Ws := fun δ E => u δ (fun xs δ1 => E.nx (δ1.set i (.ol false xs))) E.xx
theorem k5_of {b : B} {F : Hp} {σ : L2.St} {Y : Er → List S → Prop} (k5 : ∀ er δ', Y er δ' → ∀ σ' F' H', Wf b F' H' → Same F F' → Rs K b δ' σ' F' H' → ∀ cls dd, RepX K F' er cls dd → W cls dd σ' H') : ∀ er δ', Y er δ' → Xp K W b F σ er δ' :=
  fun er δ' h cls dd F' H' wf s r x => k5 er δ' h σ F' H' wf s r cls dd x
theorem s_set (i : Nat) {x : Str} {u : Wt} {pos' : Pos} (hN : X.N.Nodup) (h : PE X e (Tr K W u)) (hi : X.N[i]? = some x := by rfl) (hx : Loc X.env.scope x := by first | exact Or.inl rfl | exact Or.inr rfl) (hs : swapsWith e (some (.Name x pos')) pos.line X.env = pure false := by rfl)
    (hf : X.fn x = true ∨ X.env.scope.names.lookup x = some .local := by first | exact .inl rfl | exact .inr rfl | assumption) : PS X (.Assign [.Name x pos'] e pos) (TrS K W (wSet i u)) := ps_imp (ps_set hN hi hx h hs hf) fun Dn σ H h => by
  obtain ⟨b, δ, F, E, wf, r, q, k1, k2, k3, k4, k5⟩ := h
  exact ⟨b, δ, F, _, _, wf, r, q, fun d δ1 q1 v F1 H1 wf1 s1 r1 rx => k1 _ q1 _ F1 H1 wf1 s1 (r1.setV rx), k5_of k5⟩
theorem s_setL (i : Nat) {x : Str} {u : Wl} {pos' : Pos} (hN : X.N.Nodup) (h : PE X e (TrL K W u)) (hi : X.N[i]? = some x := by rfl) (hx : Loc X.env.scope x := by first | exact Or.inl rfl | exact Or.inr rfl) (hs : swapsWith e (some (.Name x pos')) pos.line X.env = pure false := by rfl)
    (hf : X.fn x = true ∨ X.env.scope.names.lookup x = some .local := by first | exact .inl rfl | exact .inr rfl | assumption) : PS X (.Assign [.Name x pos'] e pos) (TrS K W (wSetL i u)) := ps_imp (ps_set hN hi hx h hs hf) fun Dn σ H h => by
  obtain ⟨b, δ, F, E, wf, r, q, k1, k2, k3, k4, k5⟩ := h
  exact ⟨b, δ, F, _, _, wf, r, q, fun d δ1 q1 p F1 H1 wf1 s1 r1 n => k1 _ q1 _ F1 H1 wf1 s1 (r1.setL n), k5_of k5⟩
def wExpr (u : Wt) : Ws := fun δ E => u δ (fun _ δ1 => E.nx δ1) E.xx
theorem s_expr {u : Wt} (h : PE X e (Tr K W u)) (hs : swapsWith e none pos.line X.env = pure false := by rfl) : PS X (.Expr e pos) (TrS K W (wExpr u)) := ps_imp (ps_expr h hs) fun Dn σ H h => by
  obtain ⟨b, δ, F, E, wf, r, q, k1, k2, k3, k4, k5⟩ := h
  exact ⟨b, δ, F, _, _, wf, r, q, fun d δ1 q1 v F1 H1 wf1 s1 r1 rx => k1 _ q1 _ F1 H1 wf1 s1 r1, k5_of k5⟩
def wRet (u : Wt) : Ws := fun δ E => u δ (fun d δ1 => E.rt (.d d) δ1) E.xx
theorem s_ret {u : Wt} (h : PE X e (Tr K W u)) : PS X (.Return (some e) pos) (TrS K W (wRet u)) := ps_imp (ps_ret h) fun Dn σ H h => by
  obtain ⟨b, δ, F, E, wf, r, q, k1, k2, k3, k4, k5⟩ := h
  exact ⟨b, δ, F, _, _, wf, r, q, fun d δ1 q1 v F1 H1 wf1 s1 r1 rx => k4 _ _ q1 _ F1 H1 wf1 s1 r1.fin rx, k5_of k5⟩
/-- a list of its own is handed back -/
def wRetL (u : Wl) : Ws := fun δ E => u δ (fun xs δ1 => E.rt (.l xs) δ1) E.xx
theorem s_retL {u : Wl} (h : PE X e (TrL K W u)) : PS X (.Return (some e) pos) (TrS K W (wRetL u)) := ps_imp (ps_ret h) fun Dn σ H h => by
  obtain ⟨b, δ, F, E, wf, r, q, k1, k2, k3, k4, k5⟩ := h
  exact ⟨b, δ, F, _, _, wf, r, q, fun d δ1 q1 p F1 H1 wf1 s1 r1 n => k4 _ _ q1 _ F1 H1 wf1 s1 r1.fin ⟨p, rfl, n.1, n.2.1⟩, k5_of k5⟩
/-- the slot's own list is handed back -/
def wRetO (i : Nat) : Ws := fun δ E => ∃ xs, δ[i]? = some (.ol false xs) ∧ E.rt (.l xs) δ
theorem s_retO (i : Nat) {x : Str} (hN : X.N[i]? = some x := by rfl) (hv : Vis X.env.scope x := by first | exact Or.inl rfl | exact Or.inr (Or.inl rfl) | exact Or.inr (Or.inr rfl)) (hd : (x == ("__debug__" : Str)) = false := by decide)
    (hcd : (x == ("__classdict__" : Str)) = false := by decide) {p1 : Pos} : PS X (.Return (some (.Name x p1)) pos) (TrS K W (wRetO i)) := ps_imp (ps_ret (pe_var hN hv hd hcd)) fun Dn σ H h => by
  obtain ⟨b, δ, F, E, wf, r, ⟨xs, hi, q⟩, k1, k2, k3, k4, k5⟩ := h
  obtain ⟨p, hp, ho, h0⟩ := r.own hi rfl
  exact ⟨_, hp, k4 _ _ q _ F H wf (Same.refl _) r.fin ⟨p, rfl, ho, by simpa [S.inp] using h0⟩⟩
theorem s_retN : PS X (.Return none pos) (TrS K W fun δ E => E.rt (.d .non) δ) := ps_imp ps_retN fun Dn σ H h => by
  obtain ⟨b, δ, F, E, wf, r, q, k1, k2, k3, k4, k5⟩ := h
  exact k4 _ _ q _ F H wf (Same.refl _) r.fin rfl
def wIfS (t : Wb) (u w : Ws) : Ws := fun δ E => t δ (fun c δ1 => if c = true then u δ1 E else w δ1 E) E.xx
theorem s_if {t : Wb} {u w : Ws} {st1 st2 : List Stmt} (h : PT X c (TrT K W t)) (h1 : PSs X st1 (TrS K W u)) (h2 : PSs X st2 (TrS K W w)) : PS X (.If c st1 st2 pos) (TrS K W (wIfS t u w)) := ps_imp (ps_if h h1 h2) fun Dn σ H h => by
  obtain ⟨b, δ, F, E, wf, r, q, k1, k2, k3, k4, k5⟩ := h
  refine ⟨b, δ, F, _, _, wf, r, q, fun c δ1 q1 F1 H1 wf1 s1 r1 => ?_, k5_of k5⟩
  have go : ∀ z : Ws, z δ1 E → TrS K W z Dn σ H1 := fun z q => ⟨b, δ1, F1, E, wf1, r1, q, fun δ2 q2 σ2 F2 H2 wf2 s2 r2 => k1 δ2 q2 σ2 F2 H2 wf2 (s1.trans s2) r2, fun δ2 q2 σ2 F2 H2 wf2 s2 r2 => k2 δ2 q2 σ2 F2 H2 wf2 (s1.trans s2) r2, fun δ2 q2 σ2 F2 H2 wf2 s2 r2 => k3 δ2 q2 σ2 F2 H2 wf2 (s1.trans s2) r2,
    fun rv δ2 q2 v F2 H2 wf2 s2 => k4 rv δ2 q2 v F2 H2 wf2 (s1.trans s2), fun er δ2 q2 σ2 F2 H2 wf2 s2 r2 => k5 er δ2 q2 σ2 F2 H2 wf2 (s1.trans s2) r2⟩
  cases c with
  | true =>
    rw [if_pos rfl] at q1
    exact iteT (go _ q1)
  | false =>
    rw [if_neg Bool.false_ne_true] at q1
    exact iteF (go _ q1)

/-! ### defs -/
abbrev Fn := List S → (Rv → List S → Prop) → (Er → List S → Prop) → Prop
def spF (K : PySem.W.Frag) (n : Nat) (f : Fn) : Sp := fun vs H Q E => ∃ F P as R Y, vs.length = n ∧ Same F H ∧ (∀ i p, P i = some p → ∃ o, H p = some o) ∧ Rs K ⟨F, H, P⟩ as (vs.map some) F H ∧ f as R Y ∧
  (∀ r fin, R r fin → ∀ v F' H', Wf ⟨F, H, P⟩ F' H' → Fin K ⟨F, H, P⟩ fin F' H' → RtOk K ⟨F, H, P⟩ F' H' r v → Q v H') ∧
  (∀ er fin, Y er fin → ∀ F' H', Wf ⟨F, H, P⟩ F' H' → ∀ cls dd, RepX K F' er cls dd → E cls dd H')
/-- what a body does: as the slots of its parameters, m further slots -/
def fnOf (n m : Nat) (w : Ws) : Fn := fun as R Y => as.length = n ∧ w (as ++ List.replicate m S.no) { nx := fun δ => R (.d .non) δ, rt := R, bk := fun _ => False, ct := fun _ => False, xx := Y }
theorem body_ok {N : List Str} {n m : Nat} {w : Ws} {vs : List V} {H : Hp} {Q : VK} {E : XK} (h : spF K n (fnOf n m w) vs H Q E) (hm : N.length = n + m) : TrS K (fun cls d _ H => E cls d H) w { nx := fun _ H' => Q .non H', rt := Q, bk := fun _ _ => False, ct := fun _ _ => False } (L2.start N vs) H := by
  obtain ⟨F, P, as, R, Y, hl, sF, pn, r, ⟨_, q⟩, k1, k2⟩ := h
  have hst : L2.start N vs = vs.map some ++ List.replicate m none := by
    unfold L2.start
    rw [hl, hm, Nat.add_sub_cancel_left]
  have la : as.length = n := by
    have := r.len
    rw [List.length_map] at this
    omega
  have wf0 : Wf ⟨F, H, P⟩ F H := ⟨sF, Same.refl _, fun _ _ _ e => e, fun _ _ e => .inl e, fun _ e => e, pn⟩
  have get : ∀ {i s}, (as ++ List.replicate m S.no)[i]? = some s → s ≠ .no → as[i]? = some s ∧ i < n := fun {i s} h hn => by
    by_cases hi : i < as.length
    · rw [List.getElem?_append_left hi] at h
      exact ⟨h, by omega⟩
    · rw [List.getElem?_append_right (by omega), List.getElem?_replicate] at h
      split at h
      · cases h; exact absurd rfl hn
      · cases h
  have gv : ∀ {i}, i < n → (vs.map some ++ List.replicate m none)[i]? = (vs.map some)[i]? := fun {i} hi => List.getElem?_append_left (by rw [List.length_map]; omega)
  rw [hst]
  refine ⟨⟨F, H, P⟩, as ++ List.replicate m S.no, F, { nx := fun δ => R (.d .non) δ, rt := R, bk := fun _ => False, ct := fun _ => False, xx := Y }, wf0, ⟨?_, fun i s x h1 h2 => ?_, fun i j s t p hij h1 h2 o1 o2 h3 h4 => ?_⟩, q, fun δ' q1 σ' F' H' wf' s' r' => k1 (.d .non) δ' q1 .non F' H' wf' r'.fin rfl, fun _ q => q.elim, fun _ q => q.elim,
    fun rv δ' q1 v F' H' wf' s' fin ok => k1 _ _ q1 _ F' H' wf' fin ok, fun er δ' q1 σ' F' H' wf' s' r' cls dd x => k2 er δ' q1 F' H' wf' cls dd x⟩
  · rw [List.length_append, List.length_append, List.length_map, List.length_replicate, List.length_replicate]; omega
  · by_cases hs : s = .no
    · subst hs; trivial
    · obtain ⟨h1', hi⟩ := get h1 hs
      rw [gv hi] at h2
      exact r.sl i s x h1' h2
  · have n1 : s ≠ .no := fun z => by subst z; cases o1
    have n2 : t ≠ .no := fun z => by subst z; cases o2
    obtain ⟨h1', hi⟩ := get h1 n1
    obtain ⟨h2', hj⟩ := get h2 n2
    rw [gv hi] at h3
    rw [gv hj] at h4
    exact r.sep i j s t p hij h1' h2' o1 o2 h3 h4
variable {P : Program} {w : World} {mg : Str → Option Value} {base : Heap}
theorem def_ok {x qual : Str} {st : Stmt} {f : Addr} {fd : FuncData} {N ps : List Str} {k n m : Nat} {u : Ws} (F : L2.Fun K x qual st f fd) (S : FnScope N ps (defScope st)) (hn : ps.length = n) (hm : N.length = n + m)
    (hbody : ∀ (cdv : Value) (A : Around) (outer : List Env) (s : Shared) (H : Hp) (E : XK), RmG k (A.deeper (PyProof.Rows.envOfC qual (defScope st) s.heap.objs.size f cdv)) →
      PSs (cxOf (L2.CX P w) P w K mg base N qual (defScope st) f cdv A outer s H E) (defBody st) (TrS K (fun cls d _ H => E cls d H) u)) : FnG P w K mg base (L2.CX P w) (k + 1) f fd ps (spF K n (fnOf n m u)) := by
  obtain ⟨oc, od, kV, doc, pm, an, cdv, ct, osl, rfl, lk, hcd⟩ := F.ex
  exact fnG_of lk hcd S (fun vs H Q E h => by obtain ⟨_, _, _, _, _, hl, _⟩ := h; omega) fun A outer s H vs Q E hr h => ⟨_, hbody cdv A outer s H E hr, body_ok h hm⟩
/-- .. with defaults -/
theorem def_okD {x qual : Str} {st : Stmt} {f : Addr} {fd : FuncData} {N ps : List Str} {k n m : Nat} {u : Ws} {dvs : List V} {kws : List (Str × V)} (F : FunD K x qual (defArgs st) (defBody st) (defScope st) dvs kws f fd) (S : FnScope N ps (defScope st)) (hn : ps.length = n) (hm : N.length = n + m)
    (hbody : ∀ (cdv : Value) (A : Around) (outer : List Env) (s : Shared) (H : Hp) (E : XK), RmG k (A.deeper (PyProof.Rows.envOfC qual (defScope st) s.heap.objs.size f cdv)) →
      PSs (cxOf (L2.CX P w) P w K mg base N qual (defScope st) f cdv A outer s H E) (defBody st) (TrS K (fun cls d _ H => E cls d H) u)) : FnG P w K mg base (L2.CX P w) (k + 1) f fd ps (spF K n (fnOf n m u)) := by
  obtain ⟨oc, od, dV, kV, doc, pm, an, cdv, ct, osl, rfl, lk, hcd, _, _⟩ := F.ex
  exact fnG_of lk hcd S (fun vs H Q E h => by obtain ⟨_, _, _, _, _, hl, _⟩ := h; omega) fun A outer s H vs Q E hr h => ⟨_, hbody cdv A outer s H E hr, body_ok h hm⟩
end
end L3

set_option Elab.async false
set_option linter.all false
set_option maxRecDepth 100000
set_option maxHeartbeats 1000000
namespace L3
open PySem L2
section
variable {X : Cx} {K : PySem.W.Frag} {W : WX} {e a b c o : Expr} {es : List Expr} {t : TE} {pos : Pos}

theorem ext_of_call {F H H2 F' H' : Hp} {P : Nat → Option Addr} (w : Wf ⟨F, H2, P⟩ F' H') (s : Same H H2) (hp : ∀ i x, P i = some x → H x = none) : Ext F H F' H' := by
  refine ⟨w.ff, w.fh, fun x u e => w.keep x u (fun i hi => ?_) (s _ _ e), fun x u e => ?_⟩
  · rw [hp i x hi] at e; cases e
  · rcases w.new x u e with q | q
    · exact .inl q
    · exact .inr (s.free q)
theorem Rs.notNew {b : B} {δ : List S} {σ : L2.St} {F H : Hp} (r : Rs K b δ σ F H) {p : Addr} (n : H p = none) : ∀ (j : Nat) (s : S), δ[j]? = some s → s.owned = true → σ[j]? ≠ some (some (.ref p)) := fun j s hj o e => by
  obtain ⟨q, hq, ho, _⟩ := r.own hj o
  rw [hq] at e
  have e' : q = p := by cases e; rfl
  subst e'
  obtain ⟨_, ho⟩ := ho
  cases s with
  | no => cases o
  | v d => cases o
  | ex _ _ _ _ _ => cases o
  | ol k xs => obtain ⟨_, h1, _⟩ := ho; rw [n] at h1; cases h1
  | oo k c ns xs => obtain ⟨_, _, h1, _⟩ := ho; rw [n] at h1; cases h1
/-- the slots of arguments that are trees -/
theorem rs_args {F H : Hp} {P : Nat → Option Addr} : ∀ {ds : List D} {vs : List V}, Reps K F ds vs → Rs K ⟨F, H, P⟩ (ds.map S.v) (vs.map some) F H := fun {ds vs} h => by
  refine ⟨by rw [List.length_map, List.length_map]; exact h.length, fun i s x h1 h2 => ?_, fun i j s t p hij h1 h2 o1 => ?_⟩
  · rw [List.getElem?_map] at h1 h2
    cases q : ds[i]? with
    | none => rw [q] at h1; cases h1
    | some d =>
      rw [q] at h1
      cases h1
      obtain ⟨v, hv, rv⟩ := h.get q
      rw [hv] at h2
      cases h2
      exact ⟨v, rfl, rv⟩
  · rw [List.getElem?_map] at h1
    cases q : ds[i]? with
    | none => rw [q] at h1; cases h1
    | some d => rw [q] at h1; cases h1; cases o1
def rvD : Rv → D
  | .d d => d
  | .l xs => .lst xs
/-- what came back, as a tree -/
theorem rv_tree {b : B} {δ : List S} {σ : L2.St} {F H H2 F' H' : Hp} {P : Nat → Option Addr} {rv : Rv} {v : V} (wf : Wf b F H) (r : Rs K b δ σ F H) (w : Wf ⟨F, H2, P⟩ F' H') (s : Same H H2) (hp : ∀ i x, P i = some x → H x = none)
    (ok : RtOk K ⟨F, H2, P⟩ F' H' rv v) : ∃ F2, Wf b F2 H' ∧ Same F F2 ∧ Rs K b δ σ F2 H' ∧ Rep K F2 (rvD rv) v ∧ Same F' F2 := by
  have ex := ext_of_call w s hp
  cases rv with
  | d d => exact ⟨F', wf.ext ex, ex.ff, r.ext ex, ok, Same.refl _⟩
  | l xs =>
    obtain ⟨p, rfl, ho, h0⟩ := ok
    have n : H p = none := s.free h0
    have na : NewAt K b δ σ F' H' xs p := ⟨ho, wf.live p n, r.notNew n⟩
    obtain ⟨F2, a1, a2, a3, a4⟩ := freeze (wf.ext ex) (r.ext ex) na
    exact ⟨F2, a1, ex.ff.trans a2, a3, a4, a2⟩
/-- f(..), all arguments trees; dd: the defaults that fill up -/
def wCall (f : Fn) (dd : List D) (u : Wa) : Wt := fun δ Q Y => u δ (fun as δ1 => ∃ ds, trees as = some ds ∧ f ((ds ++ dd).map S.v) (fun r _ => Q (rvD r) δ1) (fun er _ => Y er δ1)) Y
def wCallL (f : Fn) (dd : List D) (u : Wa) : Wl := fun δ Q Y => u δ (fun as δ1 => ∃ ds, trees as = some ds ∧ f ((ds ++ dd).map S.v) (fun r _ => ∃ xs, r = .l xs ∧ Q xs δ1) (fun er _ => Y er δ1)) Y
theorem repX_mono {F F' : Hp} {er : Er} {cls : Value} {dd : Option Addr} (s : Same F F') (x : RepX K F er cls dd) : RepX K F' er cls dd := by
  obtain ⟨c, fs⟩ := er
  obtain ⟨h1, h2⟩ := x
  refine ⟨h1, ?_⟩
  cases fs with
  | nil => exact h2
  | cons y ys =>
    obtain ⟨a, vs, h3, h4, h5⟩ := h2
    exact ⟨a, vs, h3, s _ _ h4, h5.mono s⟩
/-- the promise of a call whose arguments are trees -/
theorem sp_call {b : B} {δ : List S} {σ : L2.St} {F H : Hp} {f : Fn} {ds : List D} {vs : List V} {R : Rv → List S → Prop} {Y : Er → List S → Prop} {n : Nat} {Q : VK} (wf : Wf b F H) (r : Rs K b δ σ F H) (rr : Reps K F ds vs) (hn : vs.length = n)
    (q : f (ds.map S.v) R Y) (k : ∀ rv fin, R rv fin → ∀ v F' H', Wf ⟨F, H, fun _ => none⟩ F' H' → RtOk K ⟨F, H, fun _ => none⟩ F' H' rv v → Q v H')
    (kx : ∀ er fin, Y er fin → ∀ F' H', Wf b F' H' → Same F F' → Rs K b δ σ F' H' → ∀ cls dd, RepX K F' er cls dd → W cls dd σ H') : spF K n f vs H Q (WE W σ) :=
  ⟨F, fun _ => none, _, R, Y, hn, wf.fh, (fun _ _ z => by cases z), rs_args rr, q, fun rv fin h v F' H' w _ ok => k rv fin h v F' H' w ok, fun er fin h F' H' w cls dd x => by
    have ex := ext_of_call w (Same.refl _) fun i x z => by cases z
    exact kx er fin h F' H' (wf.ext ex) ex.ff (r.ext ex) cls dd x⟩
theorem tr_call {f : Fn} {dd : List D} {dvs : List V} {n : Nat} {u : Wa} {σ : L2.St} {H : Hp} {Q : VK} (hd : ∀ F, Reps K F dd dvs) (hf : ∀ as R Y, f as R Y → as.length = n) (h : Tr K W (wCall f dd u) σ H Q) : tCallSD (spF K n f) dvs (WE W) (TrA K W u) σ H Q := by
  obtain ⟨b, δ, F, Po, Px, wf, r, q, k, kx⟩ := h
  refine ⟨b, δ, F, _, _, wf, r, q, fun as δ1 q1 vs F1 H1 wf1 s1 r1 ra => ?_, kx⟩
  obtain ⟨ds, hds, q2⟩ := q1
  have rr := (reps_of ra hds).append (hd F1)
  have hn : (vs ++ dvs).length = n := by
    have := hf _ _ _ q2
    rw [List.length_map] at this
    rw [rr.length, this]
  refine sp_call wf1 r1 rr hn q2 (fun rv fin q3 v F' H' w ok => ?_) fun er fin q3 F' H' w s r' cls dd x => kx er δ1 q3 cls dd F' H' w (s1.trans s) r' x
  obtain ⟨F2, a1, a2, a3, a4, _⟩ := rv_tree wf1 r1 w (Same.refl _) (fun i x z => by cases z) ok
  exact k _ _ q3 v F2 H' a1 (s1.trans a2) a3 a4
theorem tr_callL {f : Fn} {dd : List D} {dvs : List V} {n : Nat} {u : Wa} {σ : L2.St} {H : Hp} {Q : VK} (hd : ∀ F, Reps K F dd dvs) (hf : ∀ as R Y, f as R Y → as.length = n) (h : TrL K W (wCallL f dd u) σ H Q) : tCallSD (spF K n f) dvs (WE W) (TrA K W u) σ H Q := by
  obtain ⟨b, δ, F, Po, Px, wf, r, q, k, kx⟩ := h
  refine ⟨b, δ, F, _, _, wf, r, q, fun as δ1 q1 vs F1 H1 wf1 s1 r1 ra => ?_, kx⟩
  obtain ⟨ds, hds, q2⟩ := q1
  have rr := (reps_of ra hds).append (hd F1)
  have hn : (vs ++ dvs).length = n := by
    have := hf _ _ _ q2
    rw [List.length_map] at this
    rw [rr.length, this]
  refine sp_call wf1 r1 rr hn q2 (fun rv fin q3 v F' H' w ok => ?_) fun er fin q3 F' H' w s r' cls dd x => kx er δ1 q3 cls dd F' H' w (s1.trans s) r' x
  obtain ⟨xs, rfl, q4⟩ := q3
  have ex := ext_of_call w (Same.refl _) fun i x z => by cases z
  obtain ⟨p, rfl, ho, h0⟩ := ok
  exact k _ _ q4 p F' H' (wf1.ext ex) (s1.trans ex.ff) (r1.ext ex) ⟨ho, wf1.live p h0, r1.notNew h0⟩
variable {k n : Nat} {f C : Addr} {fd : FuncData} {ps : List Str} {ff : Fn} {dvs : List V} {dvl : List Value} {dd : List D} {x m : Str} {p apos : Pos}
theorem x_call {u : Wa} (F : FnG X.prog X.w X.K X.mg X.base (L2.CX X.prog X.w) k f fd ps (spF X.K n ff)) (hr : RmG k X.A) (hm : X.mg x = some (.ref f)) (hk : PySem.W.keepIn X.K (.ref f) = true) (hb : Binds X.K fd ps dvl) (hd : Vals dvs dvl) (hdd : ∀ F, Reps X.K F dd dvs)
    (tk : Takes X W) (hf : ∀ as R Y, ff as R Y → as.length = n) (ha : PA X (e :: es) (TrA X.K W u)) (hg : Gl X x := by rfl) (hdb : (x == ("__debug__" : Str)) = false := by decide) (he : starEach (e :: es) X.env = (false, eval e X.env) :: starEach es X.env := by rfl)
    (hpl : (backTo pos (starEach es X.env)).any (·.1) = false := by rfl) : PE X (.Call (.Name x p) (e :: es) [] pos) (Tr X.K W (wCall ff dd u)) :=
  pe_imp (pe_callG F hr hg hm hk hb hd (fun σ => passAt tk σ) ha hdb he hpl) fun _ _ _ => tr_call hdd hf
theorem xl_call {u : Wa} (F : FnG X.prog X.w X.K X.mg X.base (L2.CX X.prog X.w) k f fd ps (spF X.K n ff)) (hr : RmG k X.A) (hm : X.mg x = some (.ref f)) (hk : PySem.W.keepIn X.K (.ref f) = true) (hb : Binds X.K fd ps dvl) (hd : Vals dvs dvl) (hdd : ∀ F, Reps X.K F dd dvs)
    (tk : Takes X W) (hf : ∀ as R Y, ff as R Y → as.length = n) (ha : PA X (e :: es) (TrA X.K W u)) (hg : Gl X x := by rfl) (hdb : (x == ("__debug__" : Str)) = false := by decide) (he : starEach (e :: es) X.env = (false, eval e X.env) :: starEach es X.env := by rfl)
    (hpl : (backTo pos (starEach es X.env)).any (·.1) = false := by rfl) : PE X (.Call (.Name x p) (e :: es) [] pos) (TrL X.K W (wCallL ff dd u)) :=
  pe_imp (pe_callG F hr hg hm hk hb hd (fun σ => passAt tk σ) ha hdb he hpl) fun _ _ _ => tr_callL hdd hf
end
end L3

set_option Elab.async false
set_option linter.all false
set_option maxRecDepth 100000
set_option maxHeartbeats 1000000

namespace L3
open PySem L2
section
variable {X : Cx} {K : PySem.W.Frag} {W : WX} {e a b c o : Expr} {es : List Expr} {t : TE} {pos : Pos}
variable {k n : Nat} {f C g pp : Addr} {fd : FuncData} {ps : List Str} {ff : Fn} {dvs : List V} {dvl : List Value} {dd : List D} {x m : Str} {p apos : Pos}

/-! ### instances made -/
def wMake (C : Addr) (f : Fn) (dd : List D) (u : Wa) : Wt := fun δ Q Y => u δ (fun as δ1 => ∃ ds, trees as = some ds ∧ f (.oo true C [] [] :: (ds ++ dd).map S.v) (fun r fin => ∃ ns xs, fin[0]? = some (.oo true C ns xs) ∧ Q (.obj C ns xs) δ1) (fun er _ => Y er δ1)) Y
/-- the promise of a call of an own __init__ -/
theorem make_core {f : Fn} {ds : List D} {vs : List V} {n : Nat} {bb : B} {δ1 : List S} {σ : L2.St} {F1 H1 : Hp} {Q : VK} {E : XK} {Po : D → List S → Prop} {Y : Er → List S → Prop} (wf1 : Wf bb F1 H1) (r1 : Rs K bb δ1 σ F1 H1) (rr : Reps K F1 ds vs) (hf : ∀ as R Y, f as R Y → as.length = n)
    (hn' : ∀ as R Y, f as R Y → f as (fun r fin => r = .d .non ∧ R r fin) Y)
    (q2 : f (.oo true C [] [] :: ds.map S.v) (fun r fin => ∃ ns xs, fin[0]? = some (.oo true C ns xs) ∧ Po (.obj C ns xs) δ1) Y)
    (k : ∀ d δ', Po d δ' → ∀ v F' H', Wf bb F' H' → Same F1 F' → Rs K bb δ' σ F' H' → Rep K F' d v → Q v H')
    (kx : ∀ er fin, Y er fin → ∀ F' H', Wf bb F' H' → Same F1 F' → Rs K bb δ1 σ F' H' → ∀ cls dd, RepX K F' er cls dd → E cls dd H')
    (x dx : Addr) (nx : H1 x = none) (ndx : H1 dx = none) (nex : dx ≠ x) :
    spF K n f (.ref x :: vs) (upd (upd H1 dx (.own x)) x (.ins C dx [])) (fun v H2 => v = .non ∧ Q (.ref x) H2) E := by
  have hn : (V.ref x :: vs).length = n := by
    have := hf _ _ _ q2
    rw [List.length_cons, List.length_map] at this
    rw [List.length_cons, rr.length, this]
  have sH : Same H1 (upd (upd H1 dx (.own x)) x (.ins C dx [])) := fun a o e => by
    rw [upd_ne (ne_of_none e nx), upd_ne (ne_of_none e ndx)]; exact e
  have nF : F1 x = none := wf1.fh.free nx
  let P : Nat → Option Addr := fun i => if i = 0 then some x else none
  have hP : ∀ i a, P i = some a → H1 a = none := fun i a e => by
    by_cases z : i = 0
    · subst z; cases e; exact nx
    · have : P i = none := if_neg z
      rw [this] at e; cases e
  have ra2 : Rs K ⟨F1, upd (upd H1 dx (.own x)) x (.ins C dx []), P⟩ (.oo true C [] [] :: ds.map S.v) ((V.ref x :: vs).map some) F1 (upd (upd H1 dx (.own x)) x (.ins C dx [])) := by
    have r0 : Rs K ⟨F1, upd (upd H1 dx (.own x)) x (.ins C dx []), P⟩ (ds.map S.v) (vs.map some) F1 (upd (upd H1 dx (.own x)) x (.ins C dx [])) := rs_args rr
    refine ⟨by rw [List.map_cons, List.length_cons, List.length_cons, r0.len], fun i s y h1 h2 => ?_, fun i j s t q hij h1 h2 o1 o2 h3 h4 => ?_⟩
    · cases i with
      | zero =>
        cases h1; cases h2
        exact ⟨x, rfl, ⟨nF, dx, [], upd_same, rfl, rfl⟩, rfl⟩
      | succ i => exact (show SlotOk K ⟨F1, upd (upd H1 dx (.own x)) x (.ins C dx []), P⟩ F1 _ (i + 1) y s by
          have z := r0.sl i s y h1 h2
          have hv : ∃ d, s = .v d := by
            have h1' : (ds.map S.v)[i]? = some s := h1
            rw [List.getElem?_map] at h1'
            cases q : ds[i]? with
            | none => rw [q] at h1'; cases h1'
            | some d => rw [q] at h1'; cases h1'; exact ⟨d, rfl⟩
          obtain ⟨d, rfl⟩ := hv
          exact z)
    · have only : ∀ {i s}, (S.oo true C [] [] :: ds.map S.v)[i]? = some s → s.owned = true → i = 0 := fun {i s} h o => by
        cases i with
        | zero => rfl
        | succ i =>
          have h1' : (ds.map S.v)[i]? = some s := h
          rw [List.getElem?_map] at h1'
          cases q : ds[i]? with
          | none => rw [q] at h1'; cases h1'
          | some d => rw [q] at h1'; cases h1'; cases o
      exact hij ((only h1 o1).trans (only h2 o2).symm)
  refine ⟨F1, P, _, _, _, hn, fun a o e => sH _ _ (wf1.fh _ _ e), (fun i a e => ?_), ra2, hn' _ _ _ q2, fun rv fin q3 v F' H' w fin' ok => ?_, fun er fin q3 F' H' w cls ddx xx => ?_⟩
  · by_cases z : i = 0
    · subst z; cases e; exact ⟨_, upd_same⟩
    · have : P i = none := if_neg z
      rw [this] at e; cases e
  · obtain ⟨rfl, ns, xs, h0, q4⟩ := q3
    obtain ⟨nF', dx', vs', hx', hl', rr'⟩ := fin' 0 _ x h0 rfl rfl
    have ex := ext_of_call w sH hP
    have n' : F' x = none := nF'
    have s2 : Same F' (upd F' x (.ins C dx' (ns.zip vs'))) := fun a o e => by rw [upd_ne (ne_of_none e n')]; exact e
    have ex2 : Ext F1 H1 (upd F' x (.ins C dx' (ns.zip vs'))) H' := ⟨ex.ff.trans s2, fun a o e => by
        by_cases z : a = x
        · subst z; rw [upd_same] at e; cases e; exact hx'
        · rw [upd_ne z] at e; exact ex.fh a o e, ex.hh, fun a o e => by
        by_cases z : a = x
        · subst z; exact .inr nx
        · rw [upd_ne z] at e; exact ex.new a o e⟩
    exact ⟨ok, k _ _ q4 _ _ H' (wf1.ext ex2) ex2.ff (r1.ext ex2) ⟨x, dx', vs', rfl, upd_same, hl', rr'.mono s2⟩⟩
  · have ex := ext_of_call w sH hP
    exact kx er fin q3 F' H' (wf1.ext ex) ex.ff (r1.ext ex) cls ddx xx
theorem tr_make {f : Fn} {dd : List D} {dvs : List V} {n : Nat} {u : Wa} {σ : L2.St} {H : Hp} {Q : VK} (hd : ∀ F, Reps K F dd dvs) (hf : ∀ as R Y, f as R Y → as.length = n) (hn' : ∀ as R Y, f as R Y → f as (fun r fin => r = .d .non ∧ R r fin) Y) (h : Tr K W (wMake C f dd u) σ H Q) :
    tMakeD C (spF K n f) dvs (WE W) (TrA K W u) σ H Q := by
  obtain ⟨b, δ, F, Po, Px, wf, r, q, k, kx⟩ := h
  refine ⟨b, δ, F, _, _, wf, r, q, fun as δ1 q1 vs F1 H1 wf1 s1 r1 ra => ?_, kx⟩
  intro x dx nx ndx nex
  obtain ⟨ds, hds, q2⟩ := q1
  exact make_core wf1 r1 ((reps_of ra hds).append (hd F1)) hf hn' q2 (fun d δ' q v F' H' w s => k d δ' q v F' H' w (s1.trans s)) (fun er fin q F' H' w s r cls dd x => kx er δ1 q cls dd F' H' w (s1.trans s) r x) x dx nx ndx nex
theorem x_make {u : Wa} (M : Mk X.K C f) (F : FnG X.prog X.w X.K X.mg X.base (L2.CX X.prog X.w) k f fd ps (spF X.K n ff)) (hr : RmG (k + 1) X.A) (hm : X.mg x = some (.ref C)) (hb : Binds X.K fd ps dvl) (hd : Vals dvs dvl) (hdd : ∀ F, Reps X.K F dd dvs)
    (tk : Takes X W) (hf : ∀ as R Y, ff as R Y → as.length = n) (hn' : ∀ as R Y, ff as R Y → ff as (fun r fin => r = .d .non ∧ R r fin) Y) (ha : PA X (e :: es) (TrA X.K W u)) (hg : Gl X x := by rfl) (hdb : (x == ("__debug__" : Str)) = false := by decide) (he : starEach (e :: es) X.env = (false, eval e X.env) :: starEach es X.env := by rfl)
    (hpl : (backTo pos (starEach es X.env)).any (·.1) = false := by rfl) : PE X (.Call (.Name x p) (e :: es) [] pos) (Tr X.K W (wMake C ff dd u)) :=
  pe_imp (pe_makeG M F hr hg hm hb hd (fun σ => passAt tk σ) ha hdb he hpl) fun _ _ _ => tr_make hdd hf hn'

/-! ### methods and properties of instances that are trees -/
def wMeth (C : Addr) (m : Str) (f : Fn) (dd : List D) (w : Wt) (u : Wa) : Wt := fun δ Q Y => w δ (fun d δ1 => ∃ ns xs, d = .obj C ns xs ∧ m ∉ ns ∧ u δ1 (fun as δ2 => ∃ ds, trees as = some ds ∧ f ((d :: (ds ++ dd)).map S.v) (fun r _ => Q (rvD r) δ2) (fun er _ => Y er δ2)) Y) Y
theorem lookup_zip_none {m : Str} : ∀ {ns : List Str} {vs : List V}, m ∉ ns → (ns.zip vs).lookup m = none
  | [], _, _ => rfl
  | _ :: _, [], _ => rfl
  | n :: ns, v :: vs, h => by
    have h1 : (m == n) = false := by
      cases q : m == n with
      | false => rfl
      | true => exact absurd (by rw [beq_iff_eq.mp q]; exact List.mem_cons_self) h
    show (match m == n with | true => some v | false => (ns.zip vs).lookup m) = none
    rw [h1]
    exact lookup_zip_none fun q => h (List.mem_cons_of_mem _ q)
theorem tr_meth {f : Fn} {dd : List D} {dvs : List V} {n : Nat} {w : Wt} {u : Wa} {σ : L2.St} {H : Hp} {Q : VK} (hd : ∀ F, Reps K F dd dvs) (hf : ∀ as R Y, f as R Y → as.length = n) (h : Tr K W (wMeth C m f dd w u) σ H Q) :
    tMethD C m (spF K n f) dvs (WE W) (Tr K W w) (TrA K W u) σ H Q := by
  obtain ⟨b, δ, F, Po, Px, wf, r, q, k, kx⟩ := h
  refine ⟨b, δ, F, _, _, wf, r, q, fun d δ1 q1 x F1 H1 wf1 s1 r1 rx => ?_, kx⟩
  obtain ⟨ns, xs, rfl, hm, q1⟩ := q1
  obtain ⟨a, dx, us, rfl, ha, hl, ru⟩ := id rx
  refine ⟨a, dx, _, rfl, wf1.fh _ _ ha, lookup_zip_none hm, ?_⟩
  refine ⟨b, δ1, F1, _, _, wf1, r1, q1, fun as δ2 q2 vs F2 H2 wf2 s2 r2 ra => ?_, fun er δ' hx => Xp.back s1 (kx er δ' hx)⟩
  obtain ⟨ds, hds, q3⟩ := q2
  have rr : Reps K F2 (.obj C ns xs :: (ds ++ dd)) (V.ref a :: (vs ++ dvs)) := Reps.cons (rx.mono s2) ((reps_of ra hds).append (hd F2))
  have hn : (V.ref a :: (vs ++ dvs)).length = n := by
    have := hf _ _ _ q3
    rw [List.length_map] at this
    rw [rr.length, this]
  refine sp_call wf2 r2 rr hn q3 (fun rv fin q3 v F' H' w ok => ?_) fun er fin q3 F' H' w s r' cls dd x => kx er δ2 q3 cls dd F' H' w ((s1.trans s2).trans s) r' x
  obtain ⟨F3, a1, a2, a3, a4, _⟩ := rv_tree wf2 r2 w (Same.refl _) (fun i x z => by cases z) ok
  exact k _ _ q3 v F3 H' a1 ((s1.trans s2).trans a2) a3 a4
theorem x_meth {pl : Sem Bool} {w : Wt} {u : Wa} (ho : PE X o (Tr X.K W w)) (c : Cls X.K C) (hm : Meth X.K C m f) (F : FnG X.prog X.w X.K X.mg X.base (L2.CX X.prog X.w) k f fd ps (spF X.K n ff)) (hr : RmG k X.A) (hb : Binds X.K fd ps dvl) (hd : Vals dvs dvl) (hdd : ∀ F, Reps X.K F dd dvs)
    (tk : Takes X W) (hf : ∀ as R Y, ff as R Y → as.length = n) (ha : PA X (e :: es) (TrA X.K W u)) (hst : starEach (e :: es) X.env = (false, eval e X.env) :: starEach es X.env := by rfl) (hpl : (backTo pos (starEach es X.env)).any (·.1) = false := by rfl)
    (ht : eval (.Call (.Attribute o m apos) (e :: es) [] pos) X.env = (do
      let ov ← eval o X.env
      standAt apos.atName
      let (f, first) ← holding [ov] (getMethod ov m pl)
      callWith pos f first (backTo pos (starEach (e :: es) X.env)) (backToKw pos (keywordEach [] X.env))) := by rfl) : PE X (.Call (.Attribute o m apos) (e :: es) [] pos) (Tr X.K W (wMeth C m ff dd w u)) :=
  pe_imp (pe_methG ho c hm F hr hb hd (fun σ => passAt tk σ) ha hst hpl ht) fun _ _ _ => tr_meth hdd hf
theorem x_meth0 {pl : Sem Bool} {w : Wt} (ho : PE X o (Tr X.K W w)) (c : Cls X.K C) (hm : Meth X.K C m f) (F : FnG X.prog X.w X.K X.mg X.base (L2.CX X.prog X.w) k f fd ps (spF X.K n ff)) (hr : RmG k X.A) (hb : Binds X.K fd ps dvl) (hd : Vals dvs dvl) (hdd : ∀ F, Reps X.K F dd dvs)
    (tk : Takes X W) (hf : ∀ as R Y, ff as R Y → as.length = n)
    (ht : eval (.Call (.Attribute o m apos) [] [] pos) X.env = (do
      let ov ← eval o X.env
      standAt apos.atName
      let (f, first) ← holding [ov] (getMethod ov m pl)
      callWith pos f first (backTo pos (starEach [] X.env)) (backToKw pos (keywordEach [] X.env))) := by rfl) : PE X (.Call (.Attribute o m apos) [] [] pos) (Tr X.K W (wMeth C m ff dd w wNil)) :=
  pe_imp (pe_methG0 ho c hm F hr hb hd (fun σ => passAt tk σ) ht) fun σ H Q h => by
    have z := tr_meth hdd hf h
    obtain ⟨b, δ, F, Po, Px, wf, r, q, k, kx⟩ := z
    refine ⟨b, δ, F, Po, Px, wf, r, q, fun d δ1 q1 x F1 H1 wf1 s1 r1 rx => ?_, kx⟩
    obtain ⟨a, dx, fs, h1, h2, h3, h4⟩ := k d δ1 q1 x F1 H1 wf1 s1 r1 rx
    obtain ⟨b', δ', F', Po', Px', wf', r', q', k', kx'⟩ := h4
    exact ⟨a, dx, fs, h1, h2, h3, k' _ _ q' _ F' H1 wf' (Same.refl _) r' .nil⟩
/-- a property -/
def wProp (C : Addr) (f : Fn) (w : Wt) : Wt := fun δ Q Y => w δ (fun d δ1 => ∃ ns xs, d = .obj C ns xs ∧ f [.v d] (fun r _ => Q (rvD r) δ1) (fun _ _ => False)) Y
theorem tr_prop {f : Fn} {n : Nat} {w : Wt} {σ : L2.St} {H : Hp} {Q : VK} (hf : ∀ as R Y, f as R Y → as.length = n) (h : Tr K W (wProp C f w) σ H Q) : tProp C (spF K n f) [] E0 (Tr K W w) σ H Q := by
  obtain ⟨b, δ, F, Po, Px, wf, r, q, k, kx⟩ := h
  refine ⟨b, δ, F, _, _, wf, r, q, fun d δ1 q1 x F1 H1 wf1 s1 r1 rx => ?_, kx⟩
  obtain ⟨ns, xs, rfl, q1⟩ := q1
  obtain ⟨a, dx, us, rfl, ha, hl, ru⟩ := id rx
  refine ⟨a, dx, _, rfl, wf1.fh _ _ ha, ?_⟩
  refine ⟨F1, fun _ => none, _, _, _, hf _ _ _ q1, wf1.fh, (fun _ _ z => by cases z), rs_args (ds := [.obj C ns xs]) (Reps.cons rx rfl), q1, fun rv fin q3 v F' H' w _ ok => ?_, fun er fin z => z.elim⟩
  obtain ⟨F3, a1, a2, a3, a4, _⟩ := rv_tree wf1 r1 w (Same.refl _) (fun i x z => by cases z) ok
  exact k _ _ q3 v F3 H' a1 (s1.trans a2) a3 a4
theorem x_prop {w : Wt} (ho : PE X e (Tr X.K W w)) (c : Cls X.K C) (hp : PropOf X.K C m pp g) (F : FnG X.prog X.w X.K X.mg X.base (L2.CX X.prog X.w) k g fd ps (spF X.K n ff)) (hr : RmG (k + 1) X.A) (hb : Binds X.K fd ps []) (hf : ∀ as R Y, ff as R Y → as.length = n)
    (hab : attributeBase e m X.env (eval e X.env) = eval e X.env := by rfl) : PE X (.Attribute e m pos) (Tr X.K W (wProp C ff w)) :=
  pe_imp (pe_propG ho c hp F hr hb .nil passL hab) fun _ _ _ => tr_prop hf
end
end L3

set_option Elab.async false
set_option linter.all false
set_option maxRecDepth 100000
set_option maxHeartbeats 1000000
namespace L3
open PySem L2
section
variable {X : Cx} {K : PySem.W.Frag} {W : WX} {e a b c o : Expr} {es : List Expr} {t : TE} {pos : Pos}
variable {k n : Nat} {f C g pp : Addr} {fd : FuncData} {ps : List Str} {ff : Fn} {dvs : List V} {dvl : List Value} {dd : List D} {x m : Str} {p apos : Pos}

/-! ### fields -/
theorem look_zip {F : Hp} {m : Str} : ∀ {ns : List Str} {xs : List D} {vs : List V} {d : D}, Reps K F xs vs → (ns.zip xs).lookup m = some d → ∃ v, (ns.zip vs).lookup m = some v ∧ Rep K F d v
  | [], _, _, _, _, h => by cases h
  | _ :: _, [], _, _, _, h => by cases h
  | n :: ns, x :: xs, _, d, r, h => by
    obtain ⟨v, vs, rfl, r1, r2⟩ := r
    show ∃ w, (match m == n with | true => some v | false => (ns.zip vs).lookup m) = some w ∧ _
    have h' : (match m == n with | true => some x | false => (ns.zip xs).lookup m) = some d := h
    cases q : m == n with
    | true =>
      rw [q] at h'
      cases h'
      exact ⟨v, rfl, r1⟩
    | false =>
      rw [q] at h'
      exact look_zip r2 h'
def wFld (C : Addr) (m : Str) (w : Wt) : Wt := fun δ Q Y => w δ (fun d δ1 => ∃ ns xs z, d = .obj C ns xs ∧ (ns.zip xs).lookup m = some z ∧ Q z δ1) Y
theorem x_fld {w : Wt} (ho : PE X e (Tr X.K W w)) (c : Cls X.K C) (na : NoAttr X.K C m) (hb : attributeBase e m X.env (eval e X.env) = eval e X.env := by rfl) : PE X (.Attribute e m pos) (Tr X.K W (wFld C m w)) := pe_imp (pe_fld ho hb) fun σ H Q h => by
  obtain ⟨b, δ, F, Po, Px, wf, r, q, k, kx⟩ := h
  refine ⟨b, δ, F, _, _, wf, r, q, fun d δ1 q1 x F1 H1 wf1 s1 r1 rx => ?_, kx⟩
  obtain ⟨ns, xs, z, rfl, hz, q2⟩ := q1
  obtain ⟨a, dx, vs, rfl, ha, hl, rr⟩ := rx
  obtain ⟨v, hv, rv⟩ := look_zip rr hz
  exact ⟨a, C, dx, _, v, rfl, wf1.fh _ _ ha, c, na, hv, k z δ1 q2 v F1 H1 wf1 s1 r1 rv⟩
/-- a field of the instance that slot i owns -/
def wFldO (i : Nat) (C : Addr) (m : Str) : Wt := fun δ Q _ => ∃ k ns xs z, δ[i]? = some (.oo k C ns xs) ∧ (ns.zip xs).lookup m = some z ∧ Q z δ
theorem x_fldO (i : Nat) {x : Str} (c : Cls X.K C) (na : NoAttr X.K C m) (hN : X.N[i]? = some x := by rfl) (hv : Vis X.env.scope x := by first | exact Or.inl rfl | exact Or.inr (Or.inl rfl) | exact Or.inr (Or.inr rfl)) (hd : (x == ("__debug__" : Str)) = false := by decide)
    (hcd : (x == ("__classdict__" : Str)) = false := by decide) (hb : attributeBase (.Name x p) m X.env (eval (.Name x p) X.env) = eval (.Name x p) X.env := by rfl) : PE X (.Attribute (.Name x p) m pos) (Tr X.K W (wFldO i C m)) := pe_imp (pe_fld (pe_var hN hv hd hcd) hb) fun σ H Q h => by
  obtain ⟨b, δ, F, Po, Px, wf, r, ⟨k0, ns, xs, z, hi, hz, q⟩, k, kx⟩ := h
  obtain ⟨q0, hq, ⟨_, dx, vs, ha, hl, rr⟩, _⟩ := r.own hi rfl
  obtain ⟨v, hv, rv⟩ := look_zip rr hz
  exact ⟨_, hq, q0, C, dx, _, v, rfl, ha, c, na, hv, k z δ q v F H wf (Same.refl _) r rv⟩
/-- what slot i owns is changed -/
theorem own_upd {b : B} {δ : List S} {σ : L2.St} {F H : Hp} {i : Nat} {s s' : S} {p : Addr} {o o' : HO} (wf : Wf b F H) (r : Rs K b δ σ F H) (hi : δ[i]? = some s) (hs : s.owned = true) (hs' : s'.owned = true) (hk : s'.inp = s.inp) (hp : σ[i]? = some (some (.ref p))) (ho : H p = some o)
    (own : Own K F (upd H p o') s' p) : Wf b F (upd H p o') ∧ Rs K b (δ.set i s') σ F (upd H p o') := by
  obtain ⟨q, hq, how, hb⟩ := r.own hi hs
  have e : q = p := by
    rw [hp] at hq; cases hq; rfl
  subst e
  have nF := how.1
  have lt : i < δ.length := (List.getElem?_eq_some_iff.mp hi).1
  refine ⟨⟨fun a u e => ?_, wf.ff, fun a u hn e => ?_, wf.new, fun a e => ?_, wf.pn⟩, ?_⟩
  · rw [upd_ne (ne_of_none e nF)]; exact wf.fh _ _ e
  · have ne : a ≠ q := fun z => by
      subst z
      cases hkk : s.inp with
      | true => rw [hkk, if_pos rfl] at hb; exact hn i hb
      | false => rw [hkk, if_neg Bool.false_ne_true] at hb; rw [e] at hb; cases hb
    rw [upd_ne ne]; exact wf.keep a u hn e
  · by_cases z : a = q
    · subst z; rw [upd_same] at e; cases e
    · rw [upd_ne z] at e; exact wf.live a e
  · have other : ∀ {j t y}, j ≠ i → δ[j]? = some t → σ[j]? = some y → SlotOk K b F H j y t → SlotOk K b F (upd H q o') j y t := fun {j t y} hj h1 h2 z => by
      have ne : t.owned = true → ∀ u, y = some (.ref u) → u ≠ q := fun o u e z => by
        subst z; subst e
        exact r.sep i j s t u (Ne.symm hj) hi h1 hs o hp h2
      cases t with
      | no => trivial
      | v d => exact z
      | ex _ _ _ _ _ => exact z
      | ol k xs =>
        obtain ⟨u, a1, ⟨a2, vs, a3, a4⟩, a5⟩ := z
        exact ⟨u, a1, ⟨a2, vs, by rw [upd_ne (ne rfl u a1)]; exact a3, a4⟩, a5⟩
      | oo k c ns xs =>
        obtain ⟨u, a1, ⟨a2, dx, vs, a3, a6, a4⟩, a5⟩ := z
        exact ⟨u, a1, ⟨a2, dx, vs, by rw [upd_ne (ne rfl u a1)]; exact a3, a6, a4⟩, a5⟩
    refine ⟨by rw [List.length_set]; exact r.len, fun j t y h1 h2 => ?_, fun j l t u pp hjl h1 h2 o1 o2 h3 h4 => ?_⟩
    · by_cases hj : i = j
      · subst hj
        rw [List.getElem?_set_self lt] at h1
        cases h1
        have hy : y = some (.ref q) := by rw [hp] at h2; cases h2; rfl
        subst hy
        have hb' : if s'.inp = true then b.P i = some q else b.H0 q = none := by rw [hk]; exact hb
        cases s' with
        | no => cases hs'
        | v d => cases hs'
        | ex _ _ _ _ _ => cases hs'
        | ol k xs => exact ⟨q, rfl, own, hb'⟩
        | oo k c ns xs => exact ⟨q, rfl, own, hb'⟩
      · rw [List.getElem?_set_ne hj] at h1
        exact other (Ne.symm hj) h1 h2 (r.sl j t y h1 h2)
    · have back : ∀ {j : Nat} {t : S}, (δ.set i s')[j]? = some t → t.owned = true → ∃ t' : S, δ[j]? = some t' ∧ t'.owned = true := fun {j t} h o => by
        by_cases hj : i = j
        · subst hj; exact ⟨s, hi, hs⟩
        · rw [List.getElem?_set_ne hj] at h; exact ⟨t, h, o⟩
      obtain ⟨t', h1', o1'⟩ := back h1 o1
      obtain ⟨u', h2', o2'⟩ := back h2 o2
      exact r.sep j l t' u' pp hjl h1' h2' o1' o2' h3 h4
/-- a field of the instance that slot i owns is stored -/
def putD (m : Str) (d : D) : List Str → List D → List Str × List D
  | n :: ns, x :: xs => if n = m then (n :: ns, d :: xs) else ((n :: (putD m d ns xs).1), (x :: (putD m d ns xs).2))
  | _, _ => ([m], [d])
theorem putD_ok {F : Hp} {m : Str} {d : D} {v : V} (rv : Rep K F d v) : ∀ {ns : List Str} {xs : List D} {vs : List V}, Reps K F xs vs → ns.length = vs.length → ∃ us, putF m v (ns.zip vs) = (putD m d ns xs).1.zip us ∧ (putD m d ns xs).1.length = us.length ∧ Reps K F (putD m d ns xs).2 us
  | [], xs, vs, r, hl => by
    have : vs = [] := List.length_eq_zero_iff.mp hl.symm
    subst this
    cases xs with
    | nil => exact ⟨[v], rfl, rfl, Reps.cons rv rfl⟩
    | cons x xs => obtain ⟨_, _, h, _⟩ := r; cases h
  | n :: ns, [], vs, r, hl => by
    rw [show vs = [] from r] at hl
    cases hl
  | n :: ns, x :: xs, _, r, hl => by
    obtain ⟨w, vs, rfl, r1, r2⟩ := r
    have hl' : ns.length = vs.length := Nat.succ.inj hl
    obtain ⟨us, h1, h2, h3⟩ := putD_ok (m := m) rv r2 hl'
    show ∃ us, (if n = m then (n, v) :: ns.zip vs else (n, w) :: putF m v (ns.zip vs)) = _ ∧ _
    by_cases q : n = m
    · unfold putD
      rw [if_pos q, if_pos q]
      exact ⟨v :: vs, rfl, by rw [List.length_cons, List.length_cons, hl'], Reps.cons rv r2⟩
    · unfold putD
      rw [if_neg q, if_neg q, h1]
      exact ⟨w :: us, rfl, by show _ + 1 = _ + 1; rw [h2], Reps.cons r1 h3⟩
def wStF (i : Nat) (C : Addr) (m : Str) (w : Wt) : Ws := fun δ E => w δ (fun d δ1 => ∃ k ns xs, δ1[i]? = some (.oo k C ns xs) ∧ ns.length < 1000 ∧ E.nx (δ1.set i (.oo k C (putD m d ns xs).1 (putD m d ns xs).2))) E.xx
theorem s_fld (i : Nat) {x : Str} {w : Wt} {p2 : Pos} (c : Cls X.K C) (na : NoAttr X.K C m) (he : PE X e (Tr X.K W w)) (hN : X.N[i]? = some x := by rfl) (hv : Vis X.env.scope x := by first | exact Or.inl rfl | exact Or.inr (Or.inl rfl) | exact Or.inr (Or.inr rfl)) (hd : (x == ("__debug__" : Str)) = false := by decide)
    (hcd : (x == ("__classdict__" : Str)) = false := by decide) (hs : swapsWith e (some (.Attribute (.Name x p) m p2)) pos.line X.env = pure false := by rfl) : PS X (.Assign [.Attribute (.Name x p) m p2] e pos) (TrS X.K W (wStF i C m w)) := ps_imp (ps_fld (pe_var hN hv hd hcd) he hs) fun Dn σ H h => by
  obtain ⟨b, δ, F, E, wf, r, q, k1, k2, k3, k4, k5⟩ := h
  refine ⟨b, δ, F, _, _, wf, r, q, fun d δ1 q1 v F1 H1 wf1 s1 r1 rx => ?_, k5_of k5⟩
  obtain ⟨k0, ns, xs, hi, hl, q2⟩ := q1
  obtain ⟨q0, hq, ⟨nF, dx, vs, ha, hlv, rr⟩, _⟩ := r1.own hi rfl
  obtain ⟨us, e1, e2, e3⟩ := putD_ok (m := m) rx rr hlv
  refine ⟨_, hq, q0, C, dx, _, rfl, ha, c, na, ?_, ?_⟩
  · rw [List.length_zip]
    exact Nat.lt_of_le_of_lt (Nat.min_le_left _ _) hl
  · obtain ⟨w1, w2⟩ := own_upd (s' := .oo k0 C (putD m d ns xs).1 (putD m d ns xs).2) (o' := .ins C dx (putF m v (ns.zip vs))) wf1 r1 hi rfl rfl rfl hq ha ⟨nF, dx, us, by rw [upd_same, e1], e2, e3⟩
    exact k1 _ q2 σ F1 _ w1 s1 w2

/-! ### subscripts -/
theorem reps_at {F : Hp} {xs : List D} {vs : List V} {i : Int} {z : D} (r : Reps K F xs vs) (h : atI xs i = some z) : ∃ v, atI vs i = some v ∧ Rep K F z v := by
  unfold atI at h ⊢
  rw [r.length]
  cases q : ixN xs.length i with
  | none => rw [q] at h; cases h
  | some j =>
    rw [q] at h
    exact r.get h
def itemsOf : D → Option (List D)
  | .lst xs => some xs
  | .tup xs => some xs
  | _ => none
def oIx : O2 := fun d e P => ∃ xs i z, itemsOf d = some xs ∧ e = .int i ∧ atI xs i = some z ∧ P z
theorem x_ix {wa wb : Wt} (ha : PE X a (Tr X.K W wa)) (hb : PE X b (Tr X.K W wb)) (hs : PlainIx b) : PE X (.Subscript a b pos) (Tr X.K W (wOp oIx wa wb)) := pe_imp (pe_ix (r := fun x y H Q => Op2 X.K oIx x y H Q) (fun value slice pins s σ H x y v u Q I rx ry h hsub => ix_seq value slice pins s σ H x y v u Q I rx ry (by
  obtain ⟨F, d, e, P, sF, r1, r2, ⟨xs, i, z, hx, rfl, hz, q⟩, k⟩ := h
  cases d with
  | lst ys =>
    cases hx
    obtain ⟨l, vs, rfl, h1, h2⟩ := r1
    obtain ⟨w, hw, rw'⟩ := reps_at h2 hz
    exact .inl ⟨l, vs, i, w, rfl, r2, Same.seq sF h1, hw, k z q w F H (Ext.refl sF) rw'⟩
  | tup ys =>
    cases hx
    obtain ⟨l, vs, rfl, h1, h2⟩ := r1
    obtain ⟨w, hw, rw'⟩ := reps_at h2 hz
    exact .inr (.inl ⟨l, vs, i, w, rfl, r2, seqT sF h1, hw, k z q w F H (Ext.refl sF) rw'⟩)
  | _ => cases hx) hsub) ha hb hs) fun _ _ _ => tr_op
/-- an item of the list that slot i owns -/
def wIxO (i : Nat) (w : Wt) : Wt := fun δ Q Y => (∃ s : S, δ[i]? = some s ∧ s.owned = true) ∧ w δ (fun e δ1 => ∃ k xs j z, e = .int j ∧ δ1[i]? = some (.ol k xs) ∧ atI xs j = some z ∧ Q z δ1) Y
theorem x_ixO (i : Nat) {x : Str} {w : Wt} (hb : PE X b (Tr X.K W w)) (hs : PlainIx b) (hN : X.N[i]? = some x := by rfl) (hv : Vis X.env.scope x := by first | exact Or.inl rfl | exact Or.inr (Or.inl rfl) | exact Or.inr (Or.inr rfl)) (hd : (x == ("__debug__" : Str)) = false := by decide)
    (hcd : (x == ("__classdict__" : Str)) = false := by decide) : PE X (.Subscript (.Name x p) b pos) (Tr X.K W (wIxO i w)) := pe_imp (pe_ix ix_list (pe_var hN hv hd hcd) hb hs) fun σ H Q h => by
  obtain ⟨b, δ, F, Po, Px, wf, r, ⟨⟨s, hs, ho⟩, q⟩, k, kx⟩ := h
  obtain ⟨q0, hq, _, _⟩ := r.own hs ho
  refine ⟨_, hq, b, δ, F, _, _, wf, r, q, fun d δ1 q1 y F1 H1 wf1 s1 r1 ry => ?_, kx⟩
  obtain ⟨k0, xs, j, z, rfl, hi, hz, q2⟩ := q1
  obtain ⟨q3, hq3, ⟨_, vs, ha, rr⟩, _⟩ := r1.own hi rfl
  rw [hq] at hq3
  cases hq3
  obtain ⟨v, hv, rv⟩ := reps_at rr hz
  exact ⟨q0, vs, j, v, rfl, ry, .inl (.inl ha), hv, k z δ1 q2 v F1 H1 wf1 s1 r1 rv⟩
/-- xs[j] = e, xs the list that slot i owns -/
def wStO (i : Nat) (u w : Wt) : Ws := fun δ E => u δ (fun d δ1 => (∃ s : S, δ1[i]? = some s ∧ s.owned = true) ∧ w δ1 (fun e δ2 => ∃ k xs j l, e = .int j ∧ δ2[i]? = some (.ol k xs) ∧ ixN xs.length j = some l ∧ E.nx (δ2.set i (.ol k (xs.set l d)))) E.xx) E.xx
theorem s_sub (i : Nat) {x : Str} {u w : Wt} {p2 : Pos} (he : PE X e (Tr X.K W u)) (hb : PE X b (Tr X.K W w))
    (ha : ∀ v, assign (.Subscript (.Name x p) b p2) X.env v = (do
      let ov ← holding [v] (eval (.Name x p) X.env)
      let iv ← holding [v, ov] (eval b X.env)
      standAt p2
      holding [v, ov, iv] (setItem ov iv v)
      release [v, ov, iv] []) := by intro _; rfl)
    (hN : X.N[i]? = some x := by rfl) (hv : Vis X.env.scope x := by first | exact Or.inl rfl | exact Or.inr (Or.inl rfl) | exact Or.inr (Or.inr rfl)) (hd : (x == ("__debug__" : Str)) = false := by decide)
    (hcd : (x == ("__classdict__" : Str)) = false := by decide) (hs : swapsWithSole [.Subscript (.Name x p) b p2] e pos.line X.env = pure false := by rfl) (hw : swappedStores [.Subscript (.Name x p) b p2] e X.env = pure none := by rfl)
    (h1 : (assignEach [.Subscript (.Name x p) b p2] X.env).map (·.2) = [assign (.Subscript (.Name x p) b p2) X.env] := by rfl) : PS X (.Assign [.Subscript (.Name x p) b p2] e pos) (TrS X.K W (wStO i u w)) := ps_imp (ps_asg he (pg_sub (pe_var hN hv hd hcd) hb set_list ha) hs hw h1) fun Dn σ H h => by
  obtain ⟨b, δ, F, E, wf, r, q, k1, k2, k3, k4, k5⟩ := h
  refine ⟨b, δ, F, _, _, wf, r, q, fun d δ1 q1 v F1 H1 wf1 s1 r1 rv => ?_, k5_of k5⟩
  obtain ⟨⟨s, hs, ho⟩, q1⟩ := q1
  obtain ⟨q0, hq, _, _⟩ := r1.own hs ho
  refine ⟨_, hq, b, δ1, F1, _, _, wf1, r1, q1, fun e δ2 q2 y F2 H2 wf2 s2 r2 ry => ?_, fun er δ' hx => Xp.back s1 (k5_of k5 er δ' hx)⟩
  obtain ⟨k0, xs, j, l, rfl, hi, hl, q3⟩ := q2
  obtain ⟨q4, hq4, ⟨nF, vs, ha, rr⟩, _⟩ := r2.own hi rfl
  rw [hq] at hq4
  cases hq4
  refine ⟨q0, vs, j, l, rfl, ry, ha, by rw [rr.length]; exact hl, ?_⟩
  obtain ⟨w1, w2⟩ := own_upd (s' := .ol k0 (xs.set l d)) (o' := .lst (vs.set l v)) wf2 r2 hi rfl rfl rfl hq ha ⟨nF, _, upd_same, rr.set (rv.mono s2)⟩
  exact k1 _ q3 σ F2 _ w1 (s1.trans s2) w2
end
end L3

set_option Elab.async false
set_option linter.all false
set_option maxRecDepth 100000
set_option maxHeartbeats 1000000
namespace L3
open PySem L2
section
variable {X : Cx} {K : PySem.W.Frag} {W : WX} {e a b c o : Expr} {es : List Expr} {t : TE} {pos : Pos}
variable {k n : Nat} {f C g pp : Addr} {fd : FuncData} {ps : List Str} {ff : Fn} {dvs : List V} {dvl : List Value} {dd : List D} {x m : Str} {p apos : Pos}

/-! ### the operators of an own class -/
/-- one value of a call of an operator's def -/
def oOwn (C : Addr) (f : Fn) (okR : D → Prop) : O2 := fun d e P => (∃ ns xs, d = .obj C ns xs) ∧ okR e ∧ f [.v d, .v e] (fun r _ => P (rvD r)) (fun _ _ => False)
theorem notNI {v : V} {u : Value} {Q : Value → Shared → Prop} {s : Shared} (r : RelV v u) (h : Q u s) : PySem.W.CmpBack Q u s := by
  cases v with
  | non => cases (show u = Value.none from r); exact h
  | bl b => cases (show u = Value.bool b from r); exact h
  | int i => obtain ⟨t, rfl⟩ := (show ∃ t, u = Value.int i t from r); exact h
  | str i => obtain ⟨t, rfl⟩ := (show ∃ t, u = Value.str i t from r); exact h
  | byt i => obtain ⟨t, rfl⟩ := (show ∃ t, u = Value.bytes i t from r); exact h
  | flt i => obtain ⟨t, rfl⟩ := (show ∃ t, u = Value.float i t from r); exact h
  | ref a => cases (show u = Value.ref a from r); exact h
  | ty n => cases (show u = Value.type n from r); exact h
theorem Env0.units {P : Program} {w : World} {K : PySem.W.Frag} {mg : Str → Option Value} {base : Heap} {A A' : Around} {outer : List Env} {s : Shared} {H : Hp} (e : Env0 P w K mg base A outer s H) (h : A'.frames = A.frames) : Env0 P w K mg base A' outer s H := ⟨h.trans e.frames, e.mod, e.bs, e.bsz, e.funs, e.frf, e.hok, e.bare⟩
/-- the call of an operator's def, its two trees at hand -/
theorem run_own {pins : List (Addr × Obj)} {σ : L2.St} {H F : Hp} {s : Shared} {d1 d2 : D} {x y : V} {u v : Value} {P : D → Prop} {QQ : Value → Shared → Prop} {A : Around} {E : Value → Shared → Prop} (Fk : FnG X.prog X.w X.K X.mg X.base (L2.CX X.prog X.w) k f fd ps (spF X.K 2 ff)) (hr : RmG k A) (hA : A.frames = X.A.frames) (hb : Binds X.K fd ps [])
    (I : Inv X pins σ H s) (sF : Same F H) (r1 : Rep X.K F d1 x) (r2 : Rep X.K F d2 y) (rx : RelV x u) (ry : RelV y v) (q : ff [.v d1, .v d2] (fun r _ => P (rvD r)) (fun _ _ => False)) (hl : ∀ as R Y, ff as R Y → as.length = 2)
    (kk : ∀ z, P z → ∀ w (u : Value) F' H' s', Inv X pins σ H' s' → RelV w u → Ext F H F' H' → Rep X.K F' z w → QQ u s') : wpAny (model X.prog X.w) A (call (.ref f) [u, v]) QQ E s := by
  have rr : Reps X.K F [d1, d2] [x, y] := Reps.cons r1 (Reps.cons r2 rfl)
  have hsp : spF X.K 2 ff [x, y] H (fun w H' => ∃ z F', P z ∧ Ext F H F' H' ∧ Rep X.K F' z w) E0 :=
    ⟨F, fun _ => none, _, _, _, rfl, sF, (fun _ _ z => by cases z), rs_args rr, q, fun rv fin h w F' H' wf _ ok => by
      have ex := ext_of_call wf (Same.refl _) fun i x z => by cases z
      cases rv with
      | d d => exact ⟨d, F', h, ex, ok⟩
      | l xs =>
        obtain ⟨p, rfl, ⟨nF, vs, hp, rr'⟩, h0⟩ := ok
        have s2 : Same F' (upd F' p (.lst vs)) := fun a o e => by rw [upd_ne (ne_of_none e nF)]; exact e
        refine ⟨.lst xs, upd F' p (.lst vs), h, ⟨ex.ff.trans s2, fun a o e => ?_, ex.hh, fun a o e => ?_⟩, p, vs, rfl, .inl (.inl upd_same), rr'.mono s2⟩
        · by_cases z : a = p
          · subst z; rw [upd_same] at e; cases e; exact hp
          · rw [upd_ne z] at e; exact ex.fh a o e
        · by_cases z : a = p
          · subst z; exact .inr h0
          · rw [upd_ne z] at e; exact ex.new a o e, fun er fin z => z.elim⟩
  have hlen := Fk.len _ _ _ _ hsp
  have b := hb s [u, v] I.kIn (by simpa using hlen)
  rw [List.append_nil] at b
  refine wpAny_call (codeAny_mono (Fk.run A X.stack s H ⟨[u, v], []⟩ [u, v] [x, y] _ E0 hr (Env0.units I.env0 hA) b (.cons rx (.cons ry .nil)) hsp) fun r s' hq => ?_)
  cases r with
  | error e =>
    have z : L2.CX X.prog X.w X.stack H s E0 e s' := hq
    obtain ⟨_, _, _, _, _, _, _, _, _, _, _, _, z⟩ := z
    exact z.elim
  | ok fl =>
    cases fl with
    | ret w =>
      obtain ⟨z, H', I', rz, y, F', hP, ex, rep⟩ := I.after hq
      exact kk y hP z w F' H' s' I' rz ex rep
    | next => exact False.elim hq
    | brk => exact False.elim hq
    | cont => exact False.elim hq
/-- what the written part says of an operator's def -/
structure OpIn (K : PySem.W.Frag) (C f : Addr) (nm : String) : Prop where
  sf : PySem.W.selfFirst K C = true
  at_ : PySem.W.findIn K (.ref C) (PySem.dunder nm) = some (some (.ref f))
  fn : PySem.W.isFn K (.ref f) = true
  rf : PySem.W.findIn K (.ref C) (dunderR nm) = some none
  i1 : ∃ fo, PySem.W.findIn K (.type "int") (PySem.dunder nm) = some fo
  i2 : ∃ ro, PySem.W.findIn K (.type "int") (dunderR nm) = some ro
  sub : PySem.W.subIn K (.type "int") (.ref C) = some false
def okBin (C : Addr) (e : D) : Prop := (∃ n, e = .int n) ∨ ∃ ns xs, e = .obj C ns xs
theorem o_own {op : Operator} {nm : String} (hop : op.info.2 = nm) (O : OpIn X.K C f nm) (Fk : FnG X.prog X.w X.K X.mg X.base (L2.CX X.prog X.w) k f fd ps (spF X.K 2 ff)) (hr : RmG k X.A) (hb : Binds X.K fd ps []) (hl : ∀ as R Y, ff as R Y → as.length = 2) :
    OpR X (binaryOp op) (Op2 X.K (oOwn C ff (okBin C))) := by
  subst hop
  intro pins s σ H x y u v Q I rx ry h
  obtain ⟨F, d, e, P, sF, r1, r2, ⟨⟨ns, xs, rfl⟩, oke, q⟩, kk⟩ := h
  obtain ⟨a, dx, vs, rfl, ha, hlv, rr⟩ := id r1
  cases (show u = Value.ref a from rx)
  obtain ⟨mA, J, _⟩ := ins_get I.hok (sF _ _ ha)
  obtain ⟨od, J, _⟩ := J.look
  obtain ⟨mm, hF⟩ := I.fr
  have go := run_own (A := X.A) (E := X.xe) (QQ := PySem.W.CmpBack (EP X pins σ Q)) Fk hr rfl hb I sF r1 r2 (u := .ref a) rfl ry q hl fun z hz w u F' H' s' I' rw' ex rep => notNI rw' ⟨w, H', I', rw', kk z hz w F' H' ex rep⟩
  rcases oke with ⟨n, rfl⟩ | ⟨ns', xs', rfl⟩
  · obtain ⟨t, rfl⟩ := (show ∃ t, v = Value.int n t from by
      have : y = .int n := r2
      subst this
      exact ry)
    obtain ⟨fo, h1⟩ := O.i1
    obtain ⟨ro, h2⟩ := O.i2
    exact PySem.W.ksp_binT hF I.ok.mod.kin J rfl O.sf O.at_ O.fn O.rf (.inl rfl) h1 h2 O.sub go
  · obtain ⟨a', dx', vs', rfl, ha', _, _⟩ := id r2
    cases (show v = Value.ref a' from ry)
    obtain ⟨mB, J', _⟩ := ins_get I.hok (sF _ _ ha')
    obtain ⟨od', J', _⟩ := J'.look
    exact PySem.W.binop_K hF I.ok.mod.kin J J'.type O.sf O.at_ O.fn go
end
end L3

set_option Elab.async false
set_option linter.all false
set_option maxRecDepth 100000
set_option maxHeartbeats 1000000
namespace PySem.W
open PySem PySem.Calls PyProof.Rows
section
variable {prog : Program} {w : World} {A : Around} {E : Value → Shared → Prop} {s : Shared} {K : Frag} {x C L f : Addr} {h₀ : Heap} {m : Str → Option Value} {ox : Obj} {od : Option Obj} {b tb : Value}
/-- x != b by the class's own __eq__ -/
theorem l3_ne {Q : Value → Shared → Prop} (hu : A.units + 1 < cLine) (F : Fr h₀ L s.heap m) (X₀ : K.In h₀) (I : InstAt s.heap x ox C od) (hb : Looks (model prog w) s.heap (typeOf b) tb) (hn : notFirst K C tb = true)
    (h0 : findIn K (.ref C) "__ne__" = some (some (.builtin "object.__ne__"))) (ho : subIn K (.ref C) (.type "object") = some true) (hs : findIn K (.ref C) "__eq__" = some (some (.ref f))) (hf : isFn K (.ref f) = true)
    (h : ∀ E', wpAny (model prog w) A.in1 (call (.ref f) [.ref x, b]) (fun v s' => ∃ k, v = .bool k ∧ Q (.bool (!k)) s') E' s) : wpAny (model prog w) A (richCompare .NotEq (.ref x) b) Q E s := by
  have X := X₀.keeps F.keep
  have sub : Looks (model prog w) s.heap (isInstance (.ref x) (.type "object")) true := I.type.andThen (looks_subIn X ho)
  have bod : ∀ (R : Fin → Shared → Prop) E', (∀ k s', Q (.bool k) s' → R (.done (.ret (.bool k))) s') → wpAny (model prog w) A.in1 (Builtin.«object.__ne__» ⟨[.ref x, b], []⟩) R E' s := fun R E' hR => by
    unfold Builtin.«object.__ne__»
    refine wpAny_bind (wpAny_pure ?_)
    refine wpAny_bind (wpAny_cRoomFor (by show A.units + 1 < cLine; exact hu) ?_)
    refine wpAny_bind (ifBound_K X I hs hf (wpAny_mono (h E') (fun v s' hv => ?_) fun _ _ e => e))
    obtain ⟨k, rfl, q⟩ := hv
    refine wpAny_bind (wpAny_truthy_bool ?_)
    exact wpAny_pure (hR _ _ q)
  have Z := PySem.F.cmp_object.ne
  have go : ∀ (R : Option Value → Shared → Prop), (∀ k s', Q (.bool k) s' → R (some (.bool k)) s') → wpAny (model prog w) A (callSpecialIfBound? (.ref x) "__ne__" [b]) R E s := fun R hR => by
    have hcall : wpAny (model prog w) A (call (.builtin "object.__ne__") (.ref x :: [b])) (fun v => R (some v)) E s :=
      wpAny_call (codeAny_call_builtin Z.plain PySem.F.cmpEntry_ne (check_slot PySem.F.cmpKind_ne PySem.F.cmpSplit_ne sub (PySem.F.cmpArgs_ne _ _) (bod _ _ fun v s' q => hR v s' q)))
    simp only [callSpecialIfBound?, bindSpecialIfBound?]
    refine wpAny_holding (wpAny_bind (wpAny_bind (wpAny_bind (I.type.here ((looks_findIn X h0).here ?_)))))
    simp only [Z.bind]
    refine wpAny_bind (wpAny_askSetting (wpAny_ite ?_))
    have fin : wpAny (model prog w) A (call (.builtin "object.__ne__") ([.ref x] ++ [b]) >>= fun v => pure (some v)) R E s := wpAny_bind (wpAny_mono hcall (fun v s' h' => wpAny_pure h') fun _ _ h' => h')
    split
    · exact wpAny_bind (wpAny_pure (wpAny_pure fin))
    · exact wpAny_tryCatch (wpAny_bind (wpAny_pure (wpAny_pure fin)))
  have one : wpAny (model prog w) A (tryCompare (.ref x) "__ne__" b) (fun r s' => ∃ v, r = some v ∧ Q v s') E s := by
    unfold tryCompare
    exact wpAny_bind (go _ fun k s' q => wpAny_pure ⟨_, rfl, q⟩)
  unfold richCompare
  simp only [oneThing_ref]
  refine wpAny_holding (wpAny_bind (wpAny_cRoomFor (Nat.lt_of_succ_lt hu) ?_))
  refine wpAny_bind (I.type.here (wpAny_bind (hb.here ?_)))
  split
  · rename_i q
    have e : subIn K tb (.ref C) = some false := by
      rcases Bool.or_eq_true_iff.mp hn with e | e
      · rw [beq_iff_eq.mp e] at q; simp at q
      · exact beq_iff_eq.mp e
    refine wpAny_bind ((looks_subIn X e).here ?_)
    simp only [Bool.false_eq_true, if_false]
    refine wpAny_bind (wpAny_mono one (fun r s' z => ?_) fun _ _ e => e)
    obtain ⟨v, rfl, hq⟩ := z
    exact wpAny_pure hq
  · refine wpAny_bind (wpAny_pure ?_)
    simp only [Bool.false_eq_true, if_false]
    refine wpAny_bind (wpAny_mono one (fun r s' z => ?_) fun _ _ e => e)
    obtain ⟨v, rfl, hq⟩ := z
    exact wpAny_pure hq
theorem l3_looks_ref {M : Model} {h : Heap} {a : Addr} {o : Obj} (e : h.get? a = some o) : Looks M h (typeOf (.ref a)) o.cls := fun A Q E s k q => wpAny_typeOf_ref (k _ _ e) q
end
end PySem.W

namespace L3
open PySem L2
section
variable {X : Cx} {K : PySem.W.Frag} {W : WX} {e a b c o : Expr} {es : List Expr} {t : TE} {pos : Pos}
variable {k n : Nat} {f C g pp : Addr} {fd : FuncData} {ps : List Str} {ff : Fn} {dvs : List V} {dvl : List Value} {dd : List D} {x m : Str} {p apos : Pos}
/-- the type of a tree -/
def tyD : D → Option Value
  | .non => some (.type "NoneType")
  | .bl _ => some (.type "bool")
  | .int _ => some (.type "int")
  | .str _ => some (.type "str")
  | .tup _ => some (.type "tuple")
  | .lst _ => some (.type "list")
  | .dk _ _ => some (.type "dict")
  | .obj c _ _ => some (.ref c)
  | _ => none
theorem looks_ty {M : Model} {pins : List (Addr × Obj)} {σ : L2.St} {H F : Hp} {s : Shared} {d : D} {v : V} {u t : Value} (I : Inv X pins σ H s) (sF : Same F H) (r : Rep X.K F d v) (rv : RelV v u) (h : tyD d = some t) : PySem.W.Looks M s.heap (typeOf u) t := by
  cases d with
  | non => cases h; rw [show v = _ from r] at rv; cases (show u = Value.none from rv); exact PySem.W.Looks.of_pure rfl
  | bl i => cases h; rw [show v = _ from r] at rv; cases (show u = Value.bool i from rv); exact PySem.W.Looks.of_pure rfl
  | int i => cases h; rw [show v = _ from r] at rv; obtain ⟨t, rfl⟩ := (show ∃ t, u = Value.int i t from rv); exact PySem.W.Looks.of_pure rfl
  | str i => cases h; rw [show v = _ from r] at rv; obtain ⟨t, rfl⟩ := (show ∃ t, u = Value.str i t from rv); exact PySem.W.Looks.of_pure rfl
  | ty i => cases h
  | adr i => cases h
  | er c => cases h
  | tup ds =>
    cases h
    obtain ⟨a, vs, rfl, h1, _⟩ := r
    cases (show u = Value.ref a from rv)
    obtain ⟨its, _, ⟨o, ho, hc, _⟩, _⟩ := I.tuple (seqT sF h1)
    rw [← hc]
    exact PySem.W.l3_looks_ref ho
  | lst ds =>
    cases h
    obtain ⟨a, vs, rfl, h1, _⟩ := r
    cases (show u = Value.ref a from rv)
    obtain ⟨its, _, ⟨o, n, ho, hc, _⟩, _⟩ := I.list (Same.seq sF h1)
    rw [← hc]
    exact PySem.W.l3_looks_ref ho
  | dk ks ds =>
    cases h
    obtain ⟨a, vs, rfl, h1, _⟩ := r
    cases (show u = Value.ref a from rv)
    obtain ⟨_, _, _, _, o, es, ep, h2, h3, _⟩ := (show ObjOk X.prog X.w H s.heap a (.dK (ks.zip vs)) from I.hok a _ (sF _ _ h1))
    have hc : o.cls = .type "dict" := h3.1
    rw [← hc]
    exact PySem.W.l3_looks_ref h2
  | obj c ns ds =>
    cases h
    obtain ⟨a, dx, vs, rfl, h1, _⟩ := r
    cases (show u = Value.ref a from rv)
    obtain ⟨mA, J, _⟩ := ins_get I.hok (sF _ _ h1)
    obtain ⟨od, J, _⟩ := J.look
    exact J.type
/-- what the written part says of an order method, of == -/
structure CmpIn (K : PySem.W.Frag) (C f : Addr) (nm : Str) : Prop where
  at_ : PySem.W.findIn K (.ref C) nm = some (some (.ref f))
  fn : PySem.W.isFn K (.ref f) = true
/-- a right operand whose class is not below C -/
def okCmp (K : PySem.W.Frag) (C : Addr) (e : D) : Prop := ∃ t, tyD e = some t ∧ PySem.W.notFirst K C t = true
theorem o_ownCmp {op : CmpOp} {nm : Str} (hop : (cmpInfo op).2.1 = nm) (hd : compareOp op = richCompare op) (O : CmpIn X.K C f nm) (Fk : FnG X.prog X.w X.K X.mg X.base (L2.CX X.prog X.w) k f fd ps (spF X.K 2 ff)) (hr : RmG k X.A) (hb : Binds X.K fd ps []) (hl : ∀ as R Y, ff as R Y → as.length = 2) :
    OpR X (compareOp op) (Op2 X.K (oOwn C ff (okCmp X.K C))) := by
  subst hop
  intro pins s σ H x y u v Q I rx ry h
  obtain ⟨F, d, e, P, sF, r1, r2, ⟨⟨ns, xs, rfl⟩, ⟨t, ht, hnf⟩, q⟩, kk⟩ := h
  obtain ⟨a, dx, vs, rfl, ha, hlv, rr⟩ := id r1
  cases (show u = Value.ref a from rx)
  obtain ⟨mA, J, _⟩ := ins_get I.hok (sF _ _ ha)
  obtain ⟨od, J, _⟩ := J.look
  obtain ⟨mm, hF⟩ := I.fr
  have go := run_own (A := X.A) (E := X.xe) (QQ := PySem.W.CmpBack (EP X pins σ Q)) Fk hr rfl hb I sF r1 r2 (u := .ref a) rfl ry q hl fun z hz w u F' H' s' I' rw' ex rep => notNI rw' ⟨w, H', I', rw', kk z hz w F' H' ex rep⟩
  rw [hd]
  exact PySem.W.cmp_K hr.r.units0 hF I.ok.mod.kin J (looks_ty I sF r2 ry ht) hnf O.at_ O.fn go
end
end L3

set_option Elab.async false
set_option linter.all false
set_option maxRecDepth 100000
set_option maxHeartbeats 1000000
namespace L3
open PySem L2
section
variable {X : Cx} {K : PySem.W.Frag} {W : WX} {e a b c o : Expr} {es : List Expr} {t : TE} {pos : Pos}
variable {k n : Nat} {f C g pp : Addr} {fd : FuncData} {ps : List Str} {ff : Fn} {dvs : List V} {dvl : List Value} {dd : List D} {x m : Str} {p apos : Pos}
def oOwnNe (C : Addr) (f : Fn) (okR : D → Prop) : O2 := fun d e P => (∃ ns xs, d = .obj C ns xs) ∧ okR e ∧ f [.v d, .v e] (fun r _ => ∃ k, rvD r = .bl k ∧ P (.bl (!k))) (fun _ _ => False)
theorem o_ownNe (h0 : PySem.W.findIn X.K (.ref C) "__ne__" = some (some (.builtin "object.__ne__"))) (ho : PySem.W.subIn X.K (.ref C) (.type "object") = some true) (O : CmpIn X.K C f "__eq__") (Fk : FnG X.prog X.w X.K X.mg X.base (L2.CX X.prog X.w) k f fd ps (spF X.K 2 ff)) (hr : RmG (k + 1) X.A) (hb : Binds X.K fd ps []) (hl : ∀ as R Y, ff as R Y → as.length = 2) :
    OpR X (compareOp .NotEq) (Op2 X.K (oOwnNe C ff (okCmp X.K C))) := by
  intro pins s σ H x y u v Q I rx ry h
  obtain ⟨F, d, e, P, sF, r1, r2, ⟨⟨ns, xs, rfl⟩, ⟨t, ht, hnf⟩, q⟩, kk⟩ := h
  obtain ⟨a, dx, vs, rfl, ha, hlv, rr⟩ := id r1
  cases (show u = Value.ref a from rx)
  obtain ⟨mA, J, _⟩ := ins_get I.hok (sF _ _ ha)
  obtain ⟨od, J, _⟩ := J.look
  obtain ⟨mm, hF⟩ := I.fr
  show wpAny (model X.prog X.w) X.A (richCompare .NotEq (.ref a) v) _ _ s
  refine PySem.W.l3_ne (by have := hr.r.un; omega) hF I.ok.mod.kin J (looks_ty I sF r2 ry ht) hnf h0 ho O.at_ O.fn fun E' => ?_
  exact run_own (P := fun z => ∃ k, z = .bl k ∧ P (.bl (!k))) Fk hr.in1 rfl hb I sF r1 r2 (u := .ref a) rfl ry q hl fun z ⟨k, hz, q3⟩ w u F' H' s' I' rw' ex rep => by
    subst hz
    rw [show w = .bl k from rep] at rw'
    cases (show u = Value.bool k from rw')
    exact ⟨k, rfl, .bl (!k), H', I', rfl, kk _ q3 _ F' H' ex rfl⟩

/-! ### data -/
mutual
def toP : D → Option PyData
  | .non => some .none
  | .bl b => some (.bool b)
  | .int i => some (.int i)
  | .str s => some (.str s)
  | .tup xs => (toPs xs).map .tuple
  | .lst xs => (toPs xs).map .list
  | _ => none
def toPs : List D → Option (List PyData)
  | [] => some []
  | d :: ds => match toP d, toPs ds with
    | some p, some ps => some (p :: ps)
    | _, _ => none
end
mutual
theorem dp_of {F H : Hp} (s : Same F H) : ∀ {d : D} {v : V} {q : PyData}, Rep K F d v → toP d = some q → Dp K H v q
  | .non, v, q, r, h => by cases h; rw [show v = _ from r]; exact .non
  | .bl b, v, q, r, h => by cases h; rw [show v = _ from r]; exact .bl b
  | .int b, v, q, r, h => by cases h; rw [show v = _ from r]; exact .int b
  | .str b, v, q, r, h => by cases h; rw [show v = _ from r]; exact .str b
  | .ty _, _, _, _, h => by cases h
  | .adr _, _, _, _, h => by cases h
  | .er _, _, _, _, h => by cases h
  | .obj _ _ _, _, _, _, h => by cases h
  | .dk _ _, _, _, _, h => by cases h
  | .tup xs, v, q, r, h => by
    obtain ⟨a, vs, rfl, h1, h2⟩ := r
    cases e : toPs xs with
    | none => rw [show toP (.tup xs) = (toPs xs).map .tuple from rfl, e] at h; cases h
    | some ps =>
      rw [show toP (.tup xs) = (toPs xs).map .tuple from rfl, e] at h
      cases h
      exact .tup (seqT s h1) (dps_of s h2 e)
  | .lst xs, v, q, r, h => by
    obtain ⟨a, vs, rfl, h1, h2⟩ := r
    cases e : toPs xs with
    | none => rw [show toP (.lst xs) = (toPs xs).map .list from rfl, e] at h; cases h
    | some ps =>
      rw [show toP (.lst xs) = (toPs xs).map .list from rfl, e] at h
      cases h
      exact .lst (Same.seq s h1) (dps_of s h2 e)
theorem dps_of {F H : Hp} (s : Same F H) : ∀ {ds : List D} {vs : List V} {qs : List PyData}, Reps K F ds vs → toPs ds = some qs → DpAll K H vs qs
  | [], vs, qs, r, h => by cases h; rw [show vs = [] from r]; exact .nil
  | d :: ds, vs, qs, r, h => by
    obtain ⟨v, us, rfl, r1, r2⟩ := r
    cases e1 : toP d with
    | none => unfold toPs at h; rw [e1] at h; cases h
    | some q =>
      cases e2 : toPs ds with
      | none => unfold toPs at h; rw [e1, e2] at h; cases h
      | some rs =>
        unfold toPs at h
        rw [e1, e2] at h
        cases h
        exact .cons (dp_of s r1 e1) (dps_of s r2 e2)
end
def oEqD : O2 := fun d e P => ∃ p q, toP d = some p ∧ toP e = some q ∧ SeqAt.shaped p = true ∧ SeqAt.shaped q = true ∧ P (.bl (PyData.eqv p q))
def oNeD : O2 := fun d e P => ∃ p q, toP d = some p ∧ toP e = some q ∧ SeqAt.shaped p = true ∧ SeqAt.shaped q = true ∧ P (.bl (!PyData.eqv p q))
theorem o_eqD (hr : RmG k X.A) : OpR X (compareOp .Eq) (Op2 X.K oEqD) := op_of (op_eqD hr.r.units) fun x y H Q h => by
  obtain ⟨F, d, e, P, sF, r1, r2, ⟨p, q, h1, h2, s1, s2, q1⟩, kk⟩ := h
  exact ⟨p, q, dp_of sF r1 h1, dp_of sF r2 h2, s1, s2, kk _ q1 _ F H (Ext.refl sF) rfl⟩
theorem o_neD (hr : RmG k X.A) : OpR X (compareOp .NotEq) (Op2 X.K oNeD) := op_of (op_neD hr.r.units) fun x y H Q h => by
  obtain ⟨F, d, e, P, sF, r1, r2, ⟨p, q, h1, h2, s1, s2, q1⟩, kk⟩ := h
  exact ⟨p, q, dp_of sF r1 h1, dp_of sF r2 h2, s1, s2, kk _ q1 _ F H (Ext.refl sF) rfl⟩
theorem o_lt : OpR X (compareOp .Lt) (Op2 K (oI CT fun i j => .bl (decide (i < j)))) := op2_I0 op_lt fun _ _ _ => rfl
theorem o_le : OpR X (compareOp .LtE) (Op2 K (oI CT fun i j => .bl (decide (i ≤ j)))) := op2_I0 op_le fun _ _ _ => rfl
theorem o_gt : OpR X (compareOp .Gt) (Op2 K (oI CT fun i j => .bl (decide (j < i)))) := op2_I0 op_gt fun _ _ _ => rfl
theorem o_ge : OpR X (compareOp .GtE) (Op2 K (oI CT fun i j => .bl (decide (j ≤ i)))) := op2_I0 op_ge fun _ _ _ => rfl
def oIs (neg : Bool) : O2 := fun d e P => e = .non ∧ ((d = .non ∧ P (.bl (!neg))) ∨ ((∃ t, tyD d = some t ∧ d ≠ .non) ∧ P (.bl neg)))
theorem rep_nn {F : Hp} {d : D} {v : V} {t : Value} (r : Rep K F d v) (h : tyD d = some t) (hn : d ≠ .non) : v ≠ .non := fun z => by
  subst z
  cases d with
  | non => exact hn rfl
  | bl i => cases (show V.non = V.bl i from r)
  | int i => cases (show V.non = V.int i from r)
  | str i => cases (show V.non = V.str i from r)
  | ty i => cases h
  | adr i => cases h
  | er c => cases h
  | tup xs => obtain ⟨_, _, z, _⟩ := r; cases z
  | lst xs => obtain ⟨_, _, z, _⟩ := r; cases z
  | dk ks xs => obtain ⟨_, _, z, _⟩ := r; cases z
  | obj c ns xs => obtain ⟨_, _, _, z, _⟩ := r; cases z
theorem o_is : OpR X (compareOp .Is) (Op2 X.K (oIs false)) := op_of op_isN fun x y H Q h => by
  obtain ⟨F, d, e, P, sF, r1, r2, ⟨rfl, q⟩, kk⟩ := h
  refine ⟨r2, ?_⟩
  rcases q with ⟨rfl, q⟩ | ⟨⟨t, ht, hn⟩, q⟩
  · rw [show x = _ from r1]
    exact kk _ q _ F H (Ext.refl sF) rfl
  · rw [decide_eq_false (rep_nn r1 ht hn)]
    exact kk _ q _ F H (Ext.refl sF) rfl
theorem o_isnot : OpR X (compareOp .IsNot) (Op2 X.K (oIs true)) := op_of op_notN fun x y H Q h => by
  obtain ⟨F, d, e, P, sF, r1, r2, ⟨rfl, q⟩, kk⟩ := h
  refine ⟨r2, ?_⟩
  rcases q with ⟨rfl, q⟩ | ⟨⟨t, ht, hn⟩, q⟩
  · rw [show x = _ from r1]
    exact kk _ q _ F H (Ext.refl sF) rfl
  · rw [decide_eq_false (rep_nn r1 ht hn)]
    exact kk _ q _ F H (Ext.refl sF) rfl
theorem o_neg : UnR X (unaryOp .USub) (Op1 K fun d P => ∃ i, d = .int i ∧ P (.int (-i))) := fun pins s σ H x v Q I rx h => by
  obtain ⟨F, d, P, sF, r1, ⟨i, rfl, q⟩, kk⟩ := h
  exact un_neg pins s σ H x v Q I rx ⟨i, r1, kk _ q _ F H (Ext.refl sF) rfl⟩

/-! ### built-ins -/
/-- a call's rule on trees -/
abbrev OC := List D → (D → Prop) → Prop
def OpC (K : PySem.W.Frag) (r : OC) : List V → Hp → VK → Prop := fun vs H Q => ∃ F ds P, Same F H ∧ Reps K F ds vs ∧ r ds P ∧ ∀ z, P z → ∀ v F' H', Ext F H F' H' → Rep K F' z v → Q v H'
def wCB (r : OC) (u : Wa) : Wt := fun δ Q Y => u δ (fun as δ1 => ∃ ds, trees as = some ds ∧ r ds fun z => Q z δ1) Y
theorem tr_cb {r : OC} {u : Wa} {σ : L2.St} {H : Hp} {Q : VK} (h : Tr K W (wCB r u) σ H Q) : tCB (OpC K r) (TrA K W u) σ H Q := by
  obtain ⟨b, δ, F, Po, Px, wf, rs, q, k, kx⟩ := h
  refine ⟨b, δ, F, _, _, wf, rs, q, fun as δ1 q1 vs F1 H1 wf1 s1 r1 ra => ?_, kx⟩
  obtain ⟨ds, hds, q2⟩ := q1
  exact ⟨F1, ds, _, wf1.fh, reps_of ra hds, q2, fun z q3 v F' H' ex rz => k z δ1 q3 v F' H' (wf1.ext ex) (s1.trans ex.ff) (r1.ext ex) rz⟩
theorem x_callB {r : OC} {u : Wa} {id : String} (hc : CallR X (.builtin id) (OpC X.K r)) (hm : X.mg x = none) (hv : bootBuiltins x = some (.builtin id)) (ha : PA X (e :: es) (TrA X.K W u)) (hg : Gl X x := by rfl) (hn : x ≠ "__name__" := by decide) (hdb : (x == ("__debug__" : Str)) = false := by decide)
    (he : starEach (e :: es) X.env = (false, eval e X.env) :: starEach es X.env := by rfl) (hpl : (backTo pos (starEach es X.env)).any (·.1) = false := by rfl) : PE X (.Call (.Name x p) (e :: es) [] pos) (Tr X.K W (wCB r u)) := pe_imp (pe_callB hc hg hm hv ha hn hdb he hpl) fun _ _ _ => tr_cb
theorem x_callTy {r : OC} {u : Wa} {T : String} (hc : CallR X (.type T) (OpC X.K r)) (hm : X.mg x = none) (hv : bootBuiltins x = some (.type T)) (ha : PA X (e :: es) (TrA X.K W u)) (hg : Gl X x := by rfl) (hn : x ≠ "__name__" := by decide) (hdb : (x == ("__debug__" : Str)) = false := by decide)
    (he : starEach (e :: es) X.env = (false, eval e X.env) :: starEach es X.env := by rfl) (hpl : (backTo pos (starEach es X.env)).any (·.1) = false := by rfl) : PE X (.Call (.Name x p) (e :: es) [] pos) (Tr X.K W (wCB r u)) := pe_imp (pe_callTy hc hg hm hv ha hn hdb he hpl) fun _ _ _ => tr_cb
theorem cr_of {f : Value} {r : List V → Hp → VK → Prop} {r' : OC} (h : CallR X f r) (i : ∀ vs H Q, OpC K r' vs H Q → r vs H Q) : CallR X f (OpC K r') := fun pins s σ H vs us Q I rv q => h pins s σ H vs us Q I rv (i _ _ _ q)
theorem reps1 {F : Hp} {d : D} {vs : List V} (r : Reps K F [d] vs) : ∃ v, vs = [v] ∧ Rep K F d v := by
  obtain ⟨v, us, rfl, r1, r2⟩ := r
  rw [show us = [] from r2]
  exact ⟨v, rfl, r1⟩
theorem reps2 {F : Hp} {d e : D} {vs : List V} (r : Reps K F [d, e] vs) : ∃ v w, vs = [v, w] ∧ Rep K F d v ∧ Rep K F e w := by
  obtain ⟨v, us, rfl, r1, r2⟩ := r
  obtain ⟨w, rfl, r3⟩ := reps1 r2
  exact ⟨v, w, rfl, r1, r3⟩
theorem b_abs : CallR X (.builtin "abs") (OpC K fun ds P => ∃ i, ds = [.int i] ∧ P (.int (if i < 0 then -i else i))) := cr_of call_abs fun vs H Q h => by
  obtain ⟨F, ds, P, sF, rr, ⟨i, rfl, q⟩, kk⟩ := h
  obtain ⟨v, rfl, r1⟩ := reps1 rr
  exact ⟨i, by rw [show v = _ from r1], kk _ q _ F H (Ext.refl sF) rfl⟩
theorem b_int : CallR X (.type "int") (OpC K fun ds P => (∃ i, ds = [.int i] ∧ P (.int i)) ∨ ∃ k, ds = [.bl k] ∧ P (.int (if k then 1 else 0))) := cr_of call_int1 fun vs H Q h => by
  obtain ⟨F, ds, P, sF, rr, q, kk⟩ := h
  rcases q with ⟨i, rfl, q⟩ | ⟨i, rfl, q⟩
  · obtain ⟨v, rfl, r1⟩ := reps1 rr
    exact .inl ⟨i, by rw [show v = _ from r1], kk _ q _ F H (Ext.refl sF) rfl⟩
  · obtain ⟨v, rfl, r1⟩ := reps1 rr
    exact .inr ⟨i, by rw [show v = _ from r1], kk _ q _ F H (Ext.refl sF) rfl⟩
theorem b_max2 (hc : X.calm = true) : CallR X (.builtin "max") (OpC K fun ds P => ∃ i j, ds = [.int i, .int j] ∧ P (.int (if j > i then j else i))) := cr_of (call_max2 hc) fun vs H Q h => by
  obtain ⟨F, ds, P, sF, rr, ⟨i, j, rfl, q⟩, kk⟩ := h
  obtain ⟨v, w, rfl, r1, r2⟩ := reps2 rr
  exact ⟨i, j, by rw [show v = _ from r1, show w = _ from r2], kk _ q _ F H (Ext.refl sF) rfl⟩
theorem b_min2 (hc : X.calm = true) : CallR X (.builtin "min") (OpC K fun ds P => ∃ i j, ds = [.int i, .int j] ∧ P (.int (if j < i then j else i))) := cr_of (call_min2 hc) fun vs H Q h => by
  obtain ⟨F, ds, P, sF, rr, ⟨i, j, rfl, q⟩, kk⟩ := h
  obtain ⟨v, w, rfl, r1, r2⟩ := reps2 rr
  exact ⟨i, j, by rw [show v = _ from r1, show w = _ from r2], kk _ q _ F H (Ext.refl sF) rfl⟩
theorem b_len : CallR X (.builtin "len") (OpC X.K fun ds P => ∃ d xs, ds = [d] ∧ itemsOf d = some xs ∧ P (.int xs.length)) := cr_of call_len_seq fun vs H Q h => by
  obtain ⟨F, ds, P, sF, rr, ⟨d, xs, rfl, hx, q⟩, kk⟩ := h
  obtain ⟨v, rfl, r1⟩ := reps1 rr
  cases d with
  | lst ys =>
    cases hx
    obtain ⟨l, us, rfl, h1, h2⟩ := r1
    refine ⟨l, us, rfl, .inl (Same.seq sF h1), ?_⟩
    rw [h2.length]
    exact kk _ q _ F H (Ext.refl sF) rfl
  | tup ys =>
    cases hx
    obtain ⟨l, us, rfl, h1, h2⟩ := r1
    refine ⟨l, us, rfl, .inr (seqT sF h1), ?_⟩
    rw [h2.length]
    exact kk _ q _ F H (Ext.refl sF) rfl
  | _ => cases hx
theorem b_gcd : CallR X (.builtin "math.gcd") (OpC K fun ds P => ∃ i j, ds = [.int i, .int j] ∧ P (.int ((Nat.gcd i.natAbs j.natAbs : Nat) : Int))) := cr_of cr_gcd fun vs H Q h => by
  obtain ⟨F, ds, P, sF, rr, ⟨i, j, rfl, q⟩, kk⟩ := h
  obtain ⟨v, w, rfl, r1, r2⟩ := reps2 rr
  exact ⟨i, j, by rw [show v = _ from r1, show w = _ from r2], kk _ q _ F H (Ext.refl sF) rfl⟩
theorem x_callBf {r : OC} {u : Wa} {id : String} (hc : CallR X (.builtin id) (OpC X.K r)) (hm : X.mg x = some (.builtin id)) (ha : PA X (e :: es) (TrA X.K W u)) (hg : Gl X x := by rfl) (hdb : (x == ("__debug__" : Str)) = false := by decide)
    (he : starEach (e :: es) X.env = (false, eval e X.env) :: starEach es X.env := by rfl) (hpl : (backTo pos (starEach es X.env)).any (·.1) = false := by rfl) : PE X (.Call (.Name x p) (e :: es) [] pos) (Tr X.K W (wCB r u)) := pe_imp (pe_callBfun hc hg hm ha hdb he hpl) fun _ _ _ => tr_cb
/-- a class as a value -/
def clsU : D → Option Value
  | .ty n => some (.type n)
  | .adr a => some (.ref a)
  | _ => none
/-- what the written part says of C's instances for isinstance -/
structure IsiC (K : PySem.W.Frag) (C : Addr) : Prop where
  ty : ∀ (H : Hp) (a dx : Addr) (fs : List (Str × V)), H a = some (.ins C dx fs) → TyX K H (.ref a) (.ref C)
def tyOk (K : PySem.W.Frag) (d : D) : Prop := match d with
  | .obj c _ _ => IsiC K c
  | .lst _ | .tup _ | .dk _ _ | .non | .bl _ | .int _ | .str _ => True
  | _ => False
theorem tyX_of {F H : Hp} {d : D} {v : V} {t : Value} (s : Same F H) (r : Rep K F d v) (h : tyD d = some t) (ok : tyOk K d) : TyX K H v t := by
  cases d with
  | non => cases h; rw [show v = _ from r]; exact .base .non
  | bl i => cases h; rw [show v = _ from r]; exact .base (.bl _)
  | int i => cases h; rw [show v = _ from r]; exact .base (.int _)
  | str i => cases h; rw [show v = _ from r]; exact .base (.str _)
  | ty i => cases h
  | adr i => cases h
  | er c => cases h
  | tup ds =>
    cases h
    obtain ⟨a, vs, rfl, h1, _⟩ := r
    rcases h1 with (h1 | ⟨o, h1⟩) | ⟨o, its, n, h1, h2, _⟩
    · exact .base (.tup (s _ _ h1))
    · exact .fTuple (s _ _ h1)
    · exact .kTuple h1 h2
  | lst ds =>
    cases h
    obtain ⟨a, vs, rfl, h1, _⟩ := r
    rcases h1 with (h1 | ⟨o, h1⟩) | ⟨o, its, n, h1, h2, _⟩
    · exact .base (.lst (s _ _ h1))
    · exact .base (.frz (s _ _ h1))
    · exact .kList h1 h2
  | dk ks ds =>
    cases h
    obtain ⟨a, vs, rfl, h1, _⟩ := r
    exact .base (.dK (s _ _ h1))
  | obj c ns ds =>
    cases h
    obtain ⟨a, dx, vs, rfl, h1, _⟩ := r
    exact ok.ty H a dx _ (s _ _ h1)
theorem b_isi : CallR X (.builtin "isinstance") (OpC X.K fun ds P => ∃ d c t u k, ds = [d, c] ∧ clsU c = some u ∧ tyD d = some t ∧ tyOk X.K d ∧ PySem.W.kitOne X.K t u = some k ∧ P (.bl k)) := cr_of call_isi fun vs H Q h => by
  obtain ⟨F, ds, P, sF, rr, ⟨d, c, t, u, k, rfl, hc, ht, ok, hk, q⟩, kk⟩ := h
  obtain ⟨v, w, rfl, r1, r2⟩ := reps2 rr
  refine ⟨v, w, t, u, k, rfl, ?_, tyX_of sF r1 ht ok, hk, kk _ q _ F H (Ext.refl sF) rfl⟩
  cases c with
  | ty n => cases hc; rw [show w = _ from r2]; exact .ty n
  | adr a => cases hc; rw [show w = _ from r2]; exact .own a
  | _ => cases hc
end
end L3

set_option Elab.async false
set_option linter.all false
set_option maxRecDepth 100000
set_option maxHeartbeats 1000000
namespace L2
open PySem PySem.Spec PyProof.Rows
/-- X(), X an own exception class without own __init__ -/
theorem pmk_own0 {X : Cx} {C : Addr} {bmB : List Value} {B newId initId : String} {x : Str} {p pos : Pos} (F : ExcBaseFacts B newId initId bmB) (q : PySem.W.excIn X.K C bmB newId = true) (gC : X.mg x = some (.ref C))
    (kC : PySem.W.keepIn X.K (.ref C) = true) (r : Raises X (.ref C)) (hg : Gl X x) (hdb : (x == ("__debug__" : Str)) = false := by decide) :
    PMk X (.Call (.Name x p) [] [] pos) (fun σ H Q => Q (.ref C) none H) := by
  intro pins s σ H Q I h
  refine wpAny_Call_Name_kw (ld_glob I hg gC ?_ hdb)
  refine PySem.W.callWith_K0 I.kIn kC ?_
  show wpAny _ _ (call (.ref C) []) _ _ _
  obtain ⟨bm, N, nm, qn, bs, hdct, sn, sub, ab, col, dd, k0, k1, k2, k3, k5, mN, hC, hN, hni, T⟩ := exc_obj I.kIn q
  refine wpAny_call_exc_subT F T hC hN hni (fun h' e hm => ?_) (by show 0 ≤ sizeLine; decide)
  exact mk_of I hm r h (I.hok.gone hm.new)
end L2
namespace L3
open PySem L2
section
variable {X : Cx} {K : PySem.W.Frag} {W : WX} {e a b c o : Expr} {es : List Expr} {t : TE} {pos : Pos}
variable {k n : Nat} {f C g pp : Addr} {fd : FuncData} {ps : List Str} {ff : Fn} {dvs : List V} {dvl : List Value} {dd : List D} {x m : Str} {p apos : Pos}

/-! ### errors -/
/-- what the written part says of an error class without __init__ -/
structure Er0 (K : PySem.W.Frag) (mg : Str → Option Value) (C : Addr) (x : Str) : Prop where
  q : PySem.W.excIn K C [.type "ValueError", .type "Exception", .type "BaseException", .type "object"] "ValueError.__new__" = true
  g : mg x = some (.ref C)
  k : PySem.W.keepIn K (.ref C) = true
  b : PySem.W.subIn K (.ref C) (.type "BaseException") = some true
  t : PySem.W.typeIn K (.ref C) = some (.type "type")
def wRaise0 (C : Addr) : Ws := fun δ E => E.xx (C, []) δ
theorem s_raise0 (hc : X.calm = true) (tk : Takes X W) (T : Er0 X.K X.mg C x) (hg : Gl X x := by rfl) (hdb : (x == ("__debug__" : Str)) = false := by decide) {p1 p2 p3 : Pos} : PS X (.Raise (some (.Call (.Name x p1) [] [] p2)) none p3) (TrS X.K W (wRaise0 C)) :=
  ps_imp (ps_raise hc tk (pmk_own0 F.excBase_ValueError T.q T.g T.k (raises_own T.b T.t) hg hdb)) fun Dn σ H h => by
  obtain ⟨b, δ, F, E, wf, r, q, k1, k2, k3, k4, k5⟩ := h
  exact k5 _ δ q σ F H wf (Same.refl _) r _ _ ⟨rfl, rfl⟩
/-- .. of an error class whose __init__ keeps its one argument as fld -/
structure Er1 (K : PySem.W.Frag) (mg : Str → Option Value) (C fI : Addr) (x fld : Str) : Prop where
  o : OexC K C
  g : mg x = some (.ref C)
  iC : PySem.W.findIn K (.ref C) "__init__" = some (some (.ref fI))
  tI : PySem.W.typeIn K (.ref fI) = some (.type "function")
  no : PySem.W.findIn K (.ref C) fld = some none
  xf : XfC K C
/-- the promise of such an __init__ -/
def spXI (C : Addr) (fld : Str) : Sp := fun vs H Q _ => ∃ a v, vs = [.ref a, v] ∧ H a = some (exo a C none) ∧ ∀ dx, H dx = none → dx ≠ a → Q .non (upd (upd H dx (exd dx [(fld, v)])) a (exo a C (some dx)))
theorem xinit_ok {P : Program} {w : World} {mg : Str → Option Value} {base : Heap} {qual par fld xn : Str} {st : Stmt} {f C : Addr} {fd : FuncData} {p1 p2 p3 p4 : Pos} (F : L2.Fun K "__init__" qual st f fd) (T : Er1 K mg C f xn fld) (S : FnScope ["self", par] ["self", par] (defScope st))
    (hb : defBody st = [.Assign [.Attribute (.Name "self" p1) fld p2] (.Name par p3) p4]) (d1 : (par == ("__debug__" : Str)) = false) (d2 : (par == ("__classdict__" : Str)) = false) (v1 : (defScope st).names.lookup ("self" : Str) = some .local) (v2 : (defScope st).names.lookup par = some .local) :
    FnOk P w K mg base (L2.CX P w) 1 f fd ["self", par] (spXI C fld) := by
  refine F.okX S (fun vs H Q E h => by obtain ⟨a, v, rfl, _⟩ := h; rfl) fun cdv A outer s H vs Q E hr h => ?_
  rw [hb]
  obtain ⟨a, v, rfl, ha, q⟩ := h
  refine ⟨_, pss_one (ps_ost (pe_var (i := 0) rfl (.inl v1)) (pe_var (i := 1) rfl (.inl v2) d1 d2)), ?_⟩
  exact ⟨_, rfl, _, rfl, a, C, rfl, T.o, T.no, .inl ⟨ha, fun dx n1 n2 => q dx n1 n2⟩⟩
def wRaise1 (C : Addr) (fld : Str) (u : Wt) : Ws := fun δ E => u δ (fun d δ1 => E.xx (C, [(fld, d)]) δ1) E.xx
theorem s_raise1 {fld : Str} {u : Wt} (hc : X.calm = true) (tk : Takes X W) (T : Er1 X.K X.mg C f x fld) (F1 : FnOk X.prog X.w X.K X.mg X.base (L2.CX X.prog X.w) 1 f fd ps (spXI C fld)) (hr : RmG 2 X.A) (hb : Binds X.K fd ps []) (ha : PE X e (Tr X.K W u)) (hg : Gl X x := by rfl) (hdb : (x == ("__debug__" : Str)) = false := by decide) {p1 p2 p3 : Pos}
    (he : starEach (e :: []) X.env = (false, eval e X.env) :: starEach [] X.env := by rfl) : PS X (.Raise (some (.Call (.Name x p1) [e] [] p2)) none p3) (TrS X.K W (wRaise1 C fld u)) :=
  ps_imp (ps_raise hc tk (pmk_oex T.o T.iC T.tI F1 hr.r hb .nil passL hg T.g (pa_cons ha pa_nil he) hdb he rfl)) fun Dn σ H h => by
  obtain ⟨b, δ, F, E, wf, r, q, k1, k2, k3, k4, k5⟩ := h
  refine ⟨b, δ, F, _, _, wf, r, q, fun d δ1 q1 v F1 H1 wf1 s1 r1 rv => ?_, k5_of k5⟩
  refine ⟨by show 1 ≤ 1000; decide, fun a na => ⟨a, v, rfl, upd_same, fun dx ndx nda => ⟨rfl, dx, [(fld, v)], upd_same, ?_, ?_, ?_⟩⟩⟩
  · rw [upd_ne nda, upd_same]
  · rw [upd_ne nda] at ndx; exact ndx
  · have n1 : H1 dx = none := by rw [upd_ne nda] at ndx; exact ndx
    have eH : upd (del (upd (upd (upd H1 a (exo a C none)) dx (exd dx [(fld, v)])) a (exo a C (some dx))) a) dx (.xd [(fld, v)]) = upd H1 dx (.xd [(fld, v)]) := by
      funext y
      by_cases h1 : y = dx
      · subst h1; rw [upd_same, upd_same]
      · rw [upd_ne h1, upd_ne h1]
        by_cases h2 : y = a
        · subst h2; rw [del_same, na]
        · rw [del_ne h2, upd_ne h2, upd_ne h1, upd_ne h2]
    have goal : ∀ HH, HH = upd H1 dx (.xd [(fld, v)]) → W (.ref C) (some dx) σ HH := fun HH e => by
      subst e
      have ex := Ext.new1 (o := .xd [(fld, v)]) wf1.fh n1
      exact k5 _ δ1 q1 σ _ _ (wf1.ext ex) (s1.trans ex.ff) (r1.ext ex) _ _ ⟨rfl, dx, [v], rfl, upd_same, Reps.cons (rv.mono ex.ff) rfl⟩
    exact goal _ eH

/-! ### try -/
abbrev W0 : WX := fun _ _ _ _ => False
/-- one clause, no name -/
def wTry (K : PySem.W.Frag) (C : Value) (wb ws : Ws) : Ws := fun δ E => wb δ { E with xx := fun er δ1 => ∃ k, PySem.W.exmOne K (.ref er.1) C = some k ∧ (k = true → ws δ1 { E with xx := fun _ _ => False }) ∧ (k = false → E.xx er δ1) }
theorem s_try {c0 : Value} {body suite : List Stmt} {b0 : Stmt} {np p1 : Pos} {wb ws : Ws} (hs : X.stack = X.env :: X.outer) (hf : X.env.frame = some X.env.locals) (hc : Names X x c0) (tk : Takes X W)
    (hb : ∀ (W : WX) (pn : List (Addr × Obj)) (xe : Value → Shared → Prop), Takes (X.tr pn xe) W → PassesOwn (model X.prog X.w) X.A X.env xe → PSs (X.tr pn xe) body (TrS X.K W wb))
    (hsu : ∀ (a : Addr) (oe : Obj) (cls : Value) (d : Option Addr) (pn : List (Addr × Obj)), Zc cls d oe → (∃ vs, oe.data = .fields vs) → PSs (X.suite a ((a, oe) :: pn)) (b0 :: suite) (TrS X.K W0 ws)) :
    PS X (.Try body [.ExceptHandler (some (.Name x np)) none (b0 :: suite) p1] [] [] pos) (TrS X.K W (wTry X.K c0 wb ws)) := ps_imp (ps_try_only hs hf hc tk hb hsu) fun Dn σ H h => by
  obtain ⟨b, δ, F, E, wf, r, q, k1, k2, k3, k4, k5⟩ := h
  refine ⟨b, δ, F, _, wf, r, q, k1, k2, k3, k4, fun er δ1 q1 σ1 F1 H1 wf1 s1 r1 cls d rx => ?_⟩
  obtain ⟨k, hk, y1, y2⟩ := q1
  refine ⟨k, by rw [rx.1]; exact hk, fun kt a na => ?_, fun kf => k5 er δ1 (y2 kf) σ1 F1 H1 wf1 s1 r1 cls d rx⟩
  exact ⟨b, δ1, F1, _, wf1, r1, y1 kt, fun δ2 q2 σ2 F2 H2 wf2 s2 r2 => k1 δ2 q2 σ2 F2 H2 wf2 (s1.trans s2) r2, fun δ2 q2 σ2 F2 H2 wf2 s2 r2 => k2 δ2 q2 σ2 F2 H2 wf2 (s1.trans s2) r2, fun δ2 q2 σ2 F2 H2 wf2 s2 r2 => k3 δ2 q2 σ2 F2 H2 wf2 (s1.trans s2) r2,
    fun rv δ2 q2 v F2 H2 wf2 s2 => k4 rv δ2 q2 v F2 H2 wf2 (s1.trans s2), fun _ _ z => z.elim⟩
/-- one clause, the error in slot i -/
def wTryAs (K : PySem.W.Frag) (C : Value) (i : Nat) (wb : Ws) (ws : Addr → Value → Option Addr → Ws) : Ws := fun δ E => wb δ { E with xx := fun er δ1 => ∃ k, PySem.W.exmOne K (.ref er.1) C = some k ∧
  (k = true → ∀ a d, (er.2 ≠ [] → d ≠ none) → ws a (.ref er.1) d (δ1.set i (.ex a (.ref er.1) d (er.2.map (·.1)) (er.2.map (·.2)))) { nx := fun δ2 => E.nx (δ2.set i .no), rt := E.rt, bk := fun δ2 => E.bk (δ2.set i .no), ct := fun δ2 => E.ct (δ2.set i .no), xx := fun _ _ => False }) ∧ (k = false → E.xx er δ1) }
theorem Rs.setNo {b : B} {δ : List S} {σ : L2.St} {F H : Hp} {i : Nat} (r : Rs K b δ σ F H) : Rs K b (δ.set i .no) (σ.set i none) F H := r.set (fun y e => by cases e) (fun _ => rfl) (fun o => by cases o)
theorem s_tryAs {c0 : Value} {body suite : List Stmt} {b0 : Stmt} {np p1 : Pos} {nm : Str} {wb : Ws} {ws : Addr → Value → Option Addr → Ws} (i : Nat) (hs : X.stack = X.env :: X.outer) (hf : X.env.frame = some X.env.locals) (hN : X.N.Nodup) (hi : X.N[i]? = some nm) (hln : X.env.kindOf nm = some .local) (hc : Names X x c0) (tk : Takes X W)
    (hb : ∀ (W : WX) (pn : List (Addr × Obj)) (xe : Value → Shared → Prop), Takes (X.tr pn xe) W → PassesOwn (model X.prog X.w) X.A X.env xe → PSs (X.tr pn xe) body (TrS X.K W wb))
    (hsu : ∀ (a : Addr) (oe : Obj) (cls : Value) (d : Option Addr) (pn : List (Addr × Obj)), Zc cls d oe → (∃ vs, oe.data = .fields vs) → PSs (X.suite a ((a, oe) :: pn)) (b0 :: suite) (TrS X.K W0 (ws a cls d))) :
    PS X (.Try body [.ExceptHandler (some (.Name x np)) (some nm) (b0 :: suite) p1] [] [] pos) (TrS X.K W (wTryAs X.K c0 i wb ws)) := ps_imp (ps_try_as (i := i) hs hf hN hi hln hc tk hb hsu) fun Dn σ H h => by
  obtain ⟨b, δ, F, E, wf, r, q, k1, k2, k3, k4, k5⟩ := h
  refine ⟨b, δ, F, _, wf, r, q, k1, k2, k3, k4, fun er δ1 q1 σ1 F1 H1 wf1 s1 r1 cls d rx => ?_⟩
  obtain ⟨k, hk, y1, y2⟩ := q1
  refine ⟨k, by rw [rx.1]; exact hk, fun kt a na => ?_, fun kf => k5 er δ1 (y2 kf) σ1 F1 H1 wf1 s1 r1 cls d rx⟩
  obtain ⟨hcl, hx⟩ := id rx
  subst hcl
  have hd : er.2 ≠ [] → d ≠ none := fun hne z => by
    subst z
    cases q : er.2 with
    | nil => exact hne q
    | cons y ys => rw [q] at hx; obtain ⟨_, _, z, _⟩ := hx; cases z
  have r1' : Rs X.K b (δ1.set i (.ex a (.ref er.1) d (er.2.map (·.1)) (er.2.map (·.2)))) (σ1.set i (some (.ref a))) F1 H1 := r1.set (fun y e => by
      cases e
      refine ⟨rfl, fun z hz => ?_⟩
      subst hz
      cases q : er.2 with
      | nil => rw [q] at hx; cases (show some z = none from hx)
      | cons y ys =>
        rw [q] at hx
        obtain ⟨z', vs, h1, h2, h3⟩ := hx
        cases h1
        exact ⟨vs, h2, h3⟩) (fun e => by cases e) (fun o => by cases o)
  exact ⟨b, _, F1, _, wf1, r1', y1 kt a d hd, fun δ2 q2 σ2 F2 H2 wf2 s2 r2 => k1 _ q2 _ F2 H2 wf2 (s1.trans s2) r2.setNo, fun δ2 q2 σ2 F2 H2 wf2 s2 r2 => k2 _ q2 _ F2 H2 wf2 (s1.trans s2) r2.setNo, fun δ2 q2 σ2 F2 H2 wf2 s2 r2 => k3 _ q2 _ F2 H2 wf2 (s1.trans s2) r2.setNo,
    fun rv δ2 q2 v F2 H2 wf2 s2 => k4 rv δ2 q2 v F2 H2 wf2 (s1.trans s2), fun _ _ z => z.elim⟩
/-- e.f, e the error in slot i -/
def wXf (a : Addr) (cls : Value) (d : Option Addr) (C : Addr) (i : Nat) (fld : Str) : Wt := fun δ Q _ => cls = .ref C ∧ d ≠ none ∧ ∃ ns xs z, δ[i]? = some (.ex a cls d ns xs) ∧ (ns.zip xs).lookup fld = some z ∧ Q z δ
theorem x_xf {a : Addr} {oe : Obj} {cls : Value} {d : Option Addr} {pn : List (Addr × Obj)} {fld : Str} {p1 p2 : Pos} (i : Nat) (T : XfC X.K C) (hno : PySem.W.findIn X.K (.ref C) fld = some none) (hz : Zc cls d oe) (hf : ∃ vs, oe.data = .fields vs)
    (hN : X.N[i]? = some x := by rfl) (hv : Vis X.env.scope x := by first | exact Or.inl rfl | exact Or.inr (Or.inl rfl) | exact Or.inr (Or.inr rfl)) (hd : (x == ("__debug__" : Str)) = false := by decide)
    (hcd : (x == ("__classdict__" : Str)) = false := by decide) (hb : attributeBase (.Name x p1) fld X.env (eval (.Name x p1) X.env) = eval (.Name x p1) X.env := by rfl) : PE (X.suite a ((a, oe) :: pn)) (.Attribute (.Name x p1) fld p2) (Tr X.K W (wXf a cls d C i fld)) :=
  pe_imp (pe_xf T hno hz hf (pe_var hN hv hd hcd) hb) fun σ H Q h => by
  obtain ⟨b, δ, F, Po, Px, wf, r, ⟨hc, hdn, ns, xs, z, hi, hl, q⟩, k, kx⟩ := h
  have lt : i < δ.length := (List.getElem?_eq_some_iff.mp hi).1
  have hs : i < List.length σ := by rw [r.len]; exact lt
  obtain ⟨h1, h2⟩ := r.sl i _ _ hi (List.getElem?_eq_getElem hs)
  cases d with
  | none => exact absurd rfl hdn
  | some dd =>
    obtain ⟨vs, h3, h4⟩ := h2 dd rfl
    obtain ⟨v, hv', rv⟩ := look_zip h4 hl
    exact ⟨.ref a, by rw [List.getElem?_eq_getElem hs, h1], rfl, hc, dd, _, v, rfl, wf.fh _ _ h3, hv', k z δ q v F H wf (Same.refl _) r rv⟩
end
end L3

set_option Elab.async false
set_option linter.all false
set_option maxRecDepth 100000
set_option maxHeartbeats 1000000
namespace L3
open PySem L2
section
variable {X : Cx} {K : PySem.W.Frag} {W : WX} {e a b c o tg : Expr} {es : List Expr} {t : TE} {pos : Pos}
variable {k n : Nat} {f C g pp : Addr} {fd : FuncData} {ps : List Str} {ff : Fn} {dvs : List V} {dvl : List Value} {dd : List D} {x m : Str} {p apos : Pos}

/-! ### targets -/
abbrev Wg := D → List S → (List S → Prop) → Prop
def Only (ts : List Nat) (σ σ' : L2.St) : Prop := List.length σ' = List.length σ ∧ ∀ j : Nat, j ∉ ts → σ'[j]? = σ[j]?
def TrG (K : PySem.W.Frag) (ts : List Nat) (w : Wg) : TG := fun v σ H Q => ∃ b δ F d Po, Wf b F H ∧ Rs K b δ σ F H ∧ Rep K F d v ∧ w d δ Po ∧ ∀ δ', Po δ' → ∀ σ', Only ts σ σ' → Rs K b δ' σ' F H → Q σ' H
abbrev Wgs := List D → List S → (List S → Prop) → Prop
def TrGs (K : PySem.W.Frag) (ts : List Nat) (w : Wgs) : TGs := fun vs σ H Q => ∃ b δ F ds Po, Wf b F H ∧ Rs K b δ σ F H ∧ Reps K F ds vs ∧ w ds δ Po ∧ ∀ δ', Po δ' → ∀ σ', Only ts σ σ' → Rs K b δ' σ' F H → Q σ' H
theorem pg_imp {t t' : TG} (h : PG X tg t) (i : ∀ v σ H Q, t' v σ H Q → t v σ H Q) : PG X tg t' := ⟨fun pins s σ H v u Q I r q => h.run pins s σ H v u Q I r (i _ _ _ _ q)⟩
theorem pgs_imp {t t' : TGs} (h : PGs X es t) (i : ∀ v σ H Q, t' v σ H Q → t v σ H Q) : PGs X es t' := ⟨fun pins s σ H v u Q I r q => h.run pins s σ H v u Q I r (i _ _ _ _ q)⟩
def wgName (i : Nat) : Wg := fun d δ Q => Q (δ.set i (.v d))
theorem xg_name (i : Nat) (hN : X.N.Nodup) (hi : X.N[i]? = some x := by rfl) (hx : Loc X.env.scope x := by first | exact Or.inl rfl | exact Or.inr rfl) (hf : X.fn x = true ∨ X.env.scope.names.lookup x = some .local := by first | exact .inl rfl | exact .inr rfl | assumption) : PG X (.Name x pos) (TrG K [i] (wgName i)) := pg_imp (pg_name hN hi hx hf) fun v σ H Q h => by
  obtain ⟨b, δ, F, d, Po, wf, r, rv, q, k⟩ := h
  exact k _ q _ ⟨List.length_set, fun j hj => List.getElem?_set_ne (fun z => hj (by rw [z]; exact List.mem_singleton.mpr rfl))⟩ (r.setV rv)
def wgNil : Wgs := fun ds δ Q => ds = [] ∧ Q δ
def wgCons (u : Wg) (w : Wgs) : Wgs := fun ds δ Q => ∃ d r, ds = d :: r ∧ u d δ fun δ1 => w r δ1 Q
theorem xgs_nil : PGs X [] (TrGs K [] wgNil) := pgs_imp pgs_nil fun v σ H Q h => by
  obtain ⟨b, δ, F, ds, Po, wf, r, rv, ⟨rfl, q⟩, k⟩ := h
  exact ⟨rv, k _ q σ ⟨rfl, fun _ _ => rfl⟩ r⟩
theorem xgs_cons {u : Wg} {w : Wgs} {ts us : List Nat} (h1 : PG X e (TrG K ts u)) (h2 : PGs X es (TrGs K us w)) (hs : (assignEach (e :: es) X.env).map (·.2) = assign e X.env :: (assignEach es X.env).map (·.2) := by rfl) : PGs X (e :: es) (TrGs K (ts ++ us) (wgCons u w)) := pgs_imp (pgs_cons h1 h2 hs) fun v σ H Q h => by
  obtain ⟨b, δ, F, ds, Po, wf, r, rv, ⟨d, rest, rfl, q⟩, k⟩ := h
  obtain ⟨v1, vr, rfl, r1, r2⟩ := rv
  exact ⟨v1, vr, rfl, b, δ, F, d, _, wf, r, r1, q, fun δ1 q1 σ1 o1 rs1 => ⟨b, δ1, F, rest, _, wf, rs1, r2, q1, fun δ2 q2 σ2 o2 rs2 => k _ q2 σ2 ⟨o2.1.trans o1.1, fun j hj => (o2.2 j fun z => hj (List.mem_append_right _ z)).trans (o1.2 j fun z => hj (List.mem_append_left _ z))⟩ rs2⟩⟩
def wgTup (n : Nat) (w : Wgs) : Wg := fun d δ Q => ∃ ds, d = .tup ds ∧ ds.length = n ∧ w ds δ Q
theorem xg_tup {w : Wgs} {n k0 : Nat} {ts : List Nat} (hc : X.calm = true) (h : PGs X es (TrGs X.K ts w)) (hn : (assignEach es X.env).length = n := by rfl) (hst : (assignEach es X.env).findIdx? (·.1) = none := by rfl) : PG X (.Tuple es k0 pos) (TrG X.K ts (wgTup n w)) := pg_imp (pg_tup hc h hn hst) fun v σ H Q h => by
  obtain ⟨b, δ, F, d, Po, wf, r, rv, ⟨ds, rfl, hl, q⟩, k⟩ := h
  obtain ⟨a, vs, rfl, h1, h2⟩ := rv
  exact ⟨a, vs, rfl, seqT wf.fh h1, by rw [h2.length]; exact hl, b, δ, F, ds, _, wf, r, h2, q, k⟩
/-- a, b = e -/
def wAsg (u : Wt) (w : Wg) : Ws := fun δ E => u δ (fun d δ1 => w d δ1 E.nx) E.xx
theorem s_asg {u : Wt} {w : Wg} {ts : List Nat} (he : PE X e (Tr K W u)) (hg : PG X tg (TrG K ts w)) (hs : swapsWithSole [tg] e pos.line X.env = pure false := by rfl) (hw : swappedStores [tg] e X.env = pure none := by rfl)
    (h1 : (assignEach [tg] X.env).map (·.2) = [assign tg X.env] := by rfl) : PS X (.Assign [tg] e pos) (TrS K W (wAsg u w)) := ps_imp (ps_asg he hg hs hw h1) fun Dn σ H h => by
  obtain ⟨b, δ, F, E, wf, r, q, k1, k2, k3, k4, k5⟩ := h
  exact ⟨b, δ, F, _, _, wf, r, q, fun d δ1 q1 v F1 H1 wf1 s1 r1 rx => ⟨b, δ1, F1, d, _, wf1, r1, rx, q1, fun δ2 q2 σ2 _ r2 => k1 _ q2 σ2 F1 H1 wf1 s1 r2⟩, k5_of k5⟩
/-- a, b = e, e', two names -/
def wPar (i j : Nat) (u : Wa) : Ws := fun δ E => u δ (fun as δ1 => ∃ d d', trees as = some [d, d'] ∧ E.nx ((δ1.set i (.v d)).set j (.v d'))) E.xx
theorem s_par {i j : Nat} {x y : Str} {u : Wa} {px py pt : Pos} {kt k2 pt2} (hc : X.calm = true) (hN : X.N.Nodup) (ha : PA X [a, b] (TrA K W u)) (hi : X.N[i]? = some x := by rfl) (hj : X.N[j]? = some y := by rfl) (hij : i ≠ j := by decide)
    (hx : X.env.scope.names.lookup x = some .local := by rfl) (hy : X.env.scope.names.lookup y = some .local := by rfl)
    (hw : swappedStores [.Tuple [.Name x px, .Name y py] kt pt] (.Tuple [a, b] k2 pt2) X.env = pure (some [x, y]) := by rfl)
    (hs : swapsWithSole [.Tuple [.Name x px, .Name y py] kt pt] (.Tuple [a, b] k2 pt2) pos.line X.env = pure false := by rfl) :
    PS X (.Assign [.Tuple [.Name x px, .Name y py] kt pt] (.Tuple [a, b] k2 pt2) pos) (TrS K W (wPar i j u)) := ps_imp (ps_par hc hN hi hj hij hx hy ha hw hs) fun Dn σ H h => by
  obtain ⟨b, δ, F, E, wf, r, q, k1, k2, k3, k4, k5⟩ := h
  refine ⟨b, δ, F, _, _, wf, r, q, fun as δ1 q1 vs F1 H1 wf1 s1 r1 ra => ?_, k5_of k5⟩
  obtain ⟨d, d', hd, q2⟩ := q1
  obtain ⟨v, w, rfl, ra1, ra2⟩ := reps2 (reps_of ra hd)
  exact ⟨v, w, rfl, k1 _ q2 _ F1 H1 wf1 s1 ((r1.setV ra1).setV ra2)⟩

/-! ### what a for walks -/
def ItD (K : PySem.W.Frag) (J : It) (items : List D) (F : Hp) : Prop := ∀ F' H', Same F F' → Same F' H' → (J.stop items.length H') ∧ ∀ i d, items[i]? = some d → J.go i H' ∧ ∀ y H'', J.yld i H' y H'' → ∃ F'', Ext F' H' F'' H'' ∧ Rep K F'' d y
abbrev Wi := List S → (List D → List S → Prop) → (Er → List S → Prop) → Prop
def TrI (K : PySem.W.Frag) (W : WX) (w : Wi) : TI := fun σ H R => ∃ b δ F Po Px, Wf b F H ∧ Rs K b δ σ F H ∧ w δ Po Px ∧
  (∀ items δ', Po items δ' → ∀ J F' H', Wf b F' H' → Same F F' → Rs K b δ' σ F' H' → ItD K J items F' → R J H') ∧ ∀ er δ', Px er δ' → Xp K W b F σ er δ'
theorem pi_imp {w w' : TI} (h : PI X tg e w) (i : ∀ σ H R, w' σ H R → w σ H R) : PI X tg e w' := ⟨fun pins s σ H R I q => h.run pins s σ H R I (i _ _ _ q)⟩
def wItL (w : Wt) : Wi := fun δ Q Y => w δ (fun d δ1 => ∃ xs, d = .lst xs ∧ Q xs δ1) Y
def wItT (w : Wt) : Wi := fun δ Q Y => w δ (fun d δ1 => ∃ xs, d = .tup xs ∧ Q xs δ1) Y
theorem itD_lst {F : Hp} {l : Addr} {vs : List V} {xs : List D} (h : SqL K F l vs) (r : Reps K F xs vs) : ItD K (Itl K l) xs F := fun F' H' s1 s2 => by
  have hl := r.length
  have q : SqL K H' l vs := Same.seq s2 (Same.seq s1 h)
  refine ⟨⟨vs, q, by omega⟩, fun i d hd => ?_⟩
  obtain ⟨v, hv, rv⟩ := r.get hd
  refine ⟨⟨vs, v, q, hv⟩, fun y H'' hy => ?_⟩
  obtain ⟨e, z⟩ := hy
  subst e
  have := z vs q
  rw [hv] at this
  cases this
  exact ⟨F', Ext.refl s2, rv.mono s1⟩
theorem itD_tup {F : Hp} {l : Addr} {vs : List V} {xs : List D} (h : SqT K F l vs) (r : Reps K F xs vs) : ItD K (Itt K l) xs F := fun F' H' s1 s2 => by
  have hl := r.length
  have q : SqT K H' l vs := seqT s2 (seqT s1 h)
  refine ⟨⟨vs, q, by omega⟩, fun i d hd => ?_⟩
  obtain ⟨v, hv, rv⟩ := r.get hd
  refine ⟨⟨vs, v, q, hv⟩, fun y H'' hy => ?_⟩
  obtain ⟨e, z⟩ := hy
  subst e
  have := z vs q
  rw [hv] at this
  cases this
  exact ⟨F', Ext.refl s2, rv.mono s1⟩
theorem xi_lst {w : Wt} (h : PE X e (Tr X.K W w)) : PI X tg e (TrI X.K W (wItL w)) := pi_imp (pi_list h) fun σ H R h => by
  obtain ⟨b, δ, F, Po, Px, wf, r, q, k, kx⟩ := h
  refine ⟨b, δ, F, _, _, wf, r, q, fun d δ1 q1 v F1 H1 wf1 s1 r1 rx => ?_, kx⟩
  obtain ⟨xs, rfl, q2⟩ := q1
  obtain ⟨l, vs, rfl, h1, h2⟩ := rx
  exact ⟨l, rfl, ⟨vs, Same.seq wf1.fh h1⟩, k xs δ1 q2 _ F1 H1 wf1 s1 r1 (itD_lst h1 h2)⟩
theorem xi_tup {w : Wt} (h : PE X e (Tr X.K W w)) : PI X tg e (TrI X.K W (wItT w)) := pi_imp (pi_tup h) fun σ H R h => by
  obtain ⟨b, δ, F, Po, Px, wf, r, q, k, kx⟩ := h
  refine ⟨b, δ, F, _, _, wf, r, q, fun d δ1 q1 v F1 H1 wf1 s1 r1 rx => ?_, kx⟩
  obtain ⟨xs, rfl, q2⟩ := q1
  obtain ⟨l, vs, rfl, h1, h2⟩ := rx
  exact ⟨l, rfl, ⟨vs, seqT wf1.fh h1⟩, k xs δ1 q2 _ F1 H1 wf1 s1 r1 (itD_tup h1 h2)⟩
/-- a name, list or tuple -/
def wItV (i : Nat) : Wi := fun δ Q _ => ∃ d xs, δ[i]? = some (.v d) ∧ itemsOf d = some xs ∧ Q xs δ
theorem xi_var (i : Nat) {x : Str} (hN : X.N[i]? = some x := by rfl) (hv : Vis X.env.scope x := by first | exact Or.inl rfl | exact Or.inr (Or.inl rfl) | exact Or.inr (Or.inr rfl)) (hd : (x == ("__debug__" : Str)) = false := by decide)
    (hcd : (x == ("__classdict__" : Str)) = false := by decide) : PI X tg (.Name x pos) (TrI X.K W (wItV i)) := ⟨fun pins s σ H R I h => by
  obtain ⟨b, δ, F, Po, Px, wf, r, ⟨d, xs, hi, hx, q⟩, k, kx⟩ := h
  cases d with
  | lst ys =>
    cases hx
    exact (xi_lst (tg := tg) (W := W) (x_var i (pos := pos) hN hv hd hcd)).run pins s σ H R I ⟨b, δ, F, Po, Px, wf, r, ⟨_, hi, xs, rfl, q⟩, k, kx⟩
  | tup ys =>
    cases hx
    exact (xi_tup (tg := tg) (W := W) (x_var i (pos := pos) hN hv hd hcd)).run pins s σ H R I ⟨b, δ, F, Po, Px, wf, r, ⟨_, hi, xs, rfl, q⟩, k, kx⟩
  | _ => cases hx⟩
def rangeD (lo : Int) (n : Nat) : List D := (List.range n).map fun (i : Nat) => D.int (lo + (i : Int))
theorem itD_rng {F : Hp} {lo : Int} {n : Nat} : ItD K (Itr lo n) (rangeD lo n) F := fun F' H' s1 s2 => by
  have hl : (rangeD lo n).length = n := by unfold rangeD; rw [List.length_map, List.length_range]
  refine ⟨by rw [hl]; exact Nat.le_refl _, fun i d hd => ?_⟩
  have hi : i < n := by
    have := (List.getElem?_eq_some_iff.mp hd).1
    rwa [hl] at this
  refine ⟨hi, fun y H'' hy => ?_⟩
  obtain ⟨e, z⟩ := hy
  subst e z
  have : (rangeD lo n)[i]? = some (.int (lo + (i : Int))) := by
    unfold rangeD
    rw [List.getElem?_map, List.getElem?_range hi]
    rfl
  rw [this] at hd
  cases hd
  exact ⟨F', Ext.refl s2, rfl⟩
def wRng1 (u : Wa) : Wi := fun δ Q Y => u δ (fun as δ1 => ∃ j, trees as = some [.int j] ∧ -(2 ^ 62) ≤ j ∧ j < 2 ^ 62 ∧ Q (rangeD 0 j.toNat) δ1) Y
theorem xi_rng1 {u : Wa} (ha : PA X [a] (TrA X.K W u)) (hm : X.mg "range" = none) (hg : Gl X "range" := by rfl) (hs : starEach [a] X.env = [(false, eval a X.env)] := by rfl) {p1 : Pos} : PI X tg (.Call (.Name "range" p1) [a] [] pos) (TrI X.K W (wRng1 u)) := pi_imp (pi_range1 hg hm ha (hs := hs)) fun σ H R h => by
  obtain ⟨b, δ, F, Po, Px, wf, r, q, k, kx⟩ := h
  refine ⟨b, δ, F, _, _, wf, r, q, fun as δ1 q1 vs F1 H1 wf1 s1 r1 ra => ?_, kx⟩
  obtain ⟨j, hj, h1, h2, q2⟩ := q1
  obtain ⟨v, rfl, rv⟩ := reps1 (reps_of ra hj)
  exact ⟨j, by rw [show v = _ from rv], h1, h2, k _ δ1 q2 _ F1 H1 wf1 s1 r1 itD_rng⟩

/-! ### for, while -/
def loopD (g : Wg) (w : Ws) (E : DE) : List D → List S → Prop
  | [], δ => E.nx δ
  | y :: ys, δ => g y δ fun δ1 => w δ1 { E with nx := loopD g w E ys, ct := loopD g w E ys, bk := E.nx }
def wFor (wi : Wi) (g : Wg) (w : Ws) : Ws := fun δ E => wi δ (fun items δ1 => loopD g w E items δ1) E.xx
theorem s_for {wi : Wi} {g : Wg} {ts : List Nat} {w : Ws} {iter : Expr} {body : List Stmt} (hp : PassesOwn (model X.prog X.w) X.A X.env X.xe) (hc : X.calm = true) (hi : PI X tg iter (TrI K W wi)) (hg : PG X tg (TrG K ts g)) (hb : PSs X body (TrS K W w))
    (hs : ∀ x, foldedSetIterable iter X.env x = pure x := by intro _; rfl) : PS X (.For tg iter body [] pos) (TrS K W (wFor wi g w)) := ps_imp (ps_for hp hc hi hg hb hs) fun Dn σ H h => by
  obtain ⟨b, δ, F, E, wf, r, q, k1, k2, k3, k4, k5⟩ := h
  refine ⟨b, δ, F, _, _, wf, r, q, fun items δ1 q1 J F1 H1 wf1 s1 r1 it => ?_, k5_of k5⟩
  refine ⟨fun i m σ' H' => ∃ δ' F', Wf b F' H' ∧ Same F1 F' ∧ Rs K b δ' σ' F' H' ∧ i ≤ items.length ∧ m = items.length - i ∧ loopD g w E (items.drop i) δ', ⟨_, δ1, F1, wf1, Same.refl _, r1, Nat.zero_le _, rfl, q1⟩, ?_⟩
  rintro i m σ' H' ⟨δ', F', wf', s', r', hi', rfl, lp⟩
  obtain ⟨st, go⟩ := it F' H' s' wf'.fh
  by_cases hlt : i < items.length
  · refine .inr ?_
    have hd : items[i]? = some items[i] := List.getElem?_eq_getElem hlt
    obtain ⟨g1, g2⟩ := go i _ hd
    refine ⟨g1, fun σ2 H2 => ∃ δ2 F2, Wf b F2 H2 ∧ Same F1 F2 ∧ Rs K b δ2 σ2 F2 H2 ∧ loopD g w E (items.drop (i + 1)) δ2, fun σ2 H2 ⟨δ2, F2, a1, a2, a3, a4⟩ => ⟨items.length - (i + 1), by omega, δ2, F2, a1, a2, a3, hlt, rfl, a4⟩, fun y H'' hy => ?_⟩
    obtain ⟨F'', ex, ry⟩ := g2 y H'' hy
    rw [List.drop_eq_getElem_cons hlt] at lp
    refine ⟨b, δ', F'', _, _, wf'.ext ex, r'.ext ex, ry, lp, fun δ2 q2 σ2 _ r2 => ?_⟩
    have s2 : Same F F'' := s1.trans (s'.trans ex.ff)
    exact ⟨b, δ2, F'', _, wf'.ext ex, r2, q2, fun δ3 q3 σ3 F3 H3 wf3 s3 r3 => ⟨δ3, F3, wf3, (s'.trans ex.ff).trans s3, r3, q3⟩, fun δ3 q3 σ3 F3 H3 wf3 s3 r3 => k1 δ3 q3 σ3 F3 H3 wf3 (s2.trans s3) r3, fun δ3 q3 σ3 F3 H3 wf3 s3 r3 => ⟨δ3, F3, wf3, (s'.trans ex.ff).trans s3, r3, q3⟩,
      fun rv δ3 q3 v F3 H3 wf3 s3 => k4 rv δ3 q3 v F3 H3 wf3 (s2.trans s3), fun er δ3 q3 σ3 F3 H3 wf3 s3 r3 => k5 er δ3 q3 σ3 F3 H3 wf3 (s2.trans s3) r3⟩
  · have e : i = items.length := by omega
    subst e
    rw [List.drop_length] at lp
    exact .inl ⟨st, k1 δ' lp σ' F' H' wf' (s1.trans s') r'⟩
def wWhile (t : Wb) (w : Ws) : Ws := fun δ E => ∃ I : Nat → List S → Prop, (∃ m, I m δ) ∧ ∀ m δ1, I m δ1 → t δ1 (fun c δ2 => if c = true then w δ2 { E with nx := fun δ3 => ∃ m', m' < m ∧ I m' δ3, ct := fun δ3 => ∃ m', m' < m ∧ I m' δ3, bk := E.nx } else E.nx δ2) E.xx
theorem s_while {t : Wb} {w : Ws} {body : List Stmt} (hp : PassesOwn (model X.prog X.w) X.A X.env X.xe) (hc : PT X c (TrT K W t)) (hb : PSs X body (TrS K W w)) : PS X (.While c body [] pos) (TrS K W (wWhile t w)) := ps_imp (ps_while hp hc hb) fun Dn σ H h => by
  obtain ⟨b, δ, F, E, wf, r, ⟨I, ⟨m0, i0⟩, turn⟩, k1, k2, k3, k4, k5⟩ := h
  refine ⟨fun m σ' H' => ∃ δ' F', Wf b F' H' ∧ Same F F' ∧ Rs K b δ' σ' F' H' ∧ I m δ', ⟨m0, δ, F, wf, Same.refl _, r, i0⟩, ?_⟩
  rintro m σ' H' ⟨δ', F', wf', s', r', i'⟩
  refine ⟨b, δ', F', _, _, wf', r', turn m δ' i', fun c δ2 q2 F2 H2 wf2 s2 r2 => ?_, fun er δ2 q2 => ?_⟩
  · have s3 := s'.trans s2
    cases c with
    | true =>
      rw [if_pos rfl] at q2
      refine iteT ⟨fun σ3 H3 => ∃ m', m' < m ∧ ∃ δ3 F3, Wf b F3 H3 ∧ Same F F3 ∧ Rs K b δ3 σ3 F3 H3 ∧ I m' δ3, fun σ3 H3 z => z, ?_⟩
      exact ⟨b, δ2, F2, _, wf2, r2, q2, fun δ3 ⟨m', hm, q3⟩ σ3 F3 H3 wf3 s4 r3 => ⟨m', hm, δ3, F3, wf3, s3.trans s4, r3, q3⟩, fun δ3 q3 σ3 F3 H3 wf3 s4 r3 => k1 δ3 q3 σ3 F3 H3 wf3 (s3.trans s4) r3, fun δ3 ⟨m', hm, q3⟩ σ3 F3 H3 wf3 s4 r3 => ⟨m', hm, δ3, F3, wf3, s3.trans s4, r3, q3⟩,
        fun rv δ3 q3 v F3 H3 wf3 s4 => k4 rv δ3 q3 v F3 H3 wf3 (s3.trans s4), fun er δ3 q3 σ3 F3 H3 wf3 s4 r3 => k5 er δ3 q3 σ3 F3 H3 wf3 (s3.trans s4) r3⟩
    | false =>
      rw [if_neg Bool.false_ne_true] at q2
      exact iteF (k1 δ2 q2 σ' F2 H2 wf2 s3 r2)
  · exact Xp.back s' (k5_of k5 er δ2 q2) 
end
end L3

set_option Elab.async false
set_option linter.all false
set_option maxRecDepth 100000
set_option maxHeartbeats 1000000
namespace L3
open PySem L2
section
variable {X : Cx} {K : PySem.W.Frag} {W : WX} {e a b c o tg : Expr} {es : List Expr} {t : TE} {pos : Pos}
variable {k n : Nat} {f C g pp : Addr} {fd : FuncData} {ps : List Str} {ff : Fn} {dvs : List V} {dvl : List Value} {dd : List D} {x m : Str} {p apos : Pos}

/-! ### a call that is handed what a slot owns -/
def S.flag (k : Bool) : S → S
  | .ol _ xs => .ol k xs
  | .oo _ c ns xs => .oo k c ns xs
  | s => s
theorem S.flag_owned {k : Bool} {s : S} (h : s.owned = true) : (s.flag k).owned = true := by cases s <;> first | rfl | cases h
theorem S.flag_inp {k : Bool} {s : S} (h : s.owned = true) : (s.flag k).inp = k := by cases s <;> first | rfl | cases h
theorem Own.flag {F H : Hp} {k : Bool} {s : S} {p : Addr} (h : Own K F H s p) : Own K F H (s.flag k) p := by
  obtain ⟨h1, h2⟩ := h
  refine ⟨h1, ?_⟩
  cases s <;> exact h2
def wCallB (j : Nat) (f : Fn) (dd : List D) (u : Wa) : Wt := fun δ Q Y => (∃ s : S, δ[j]? = some s ∧ s.owned = true) ∧ u δ (fun as δ1 => ∃ ds s, trees as = some ds ∧ δ1[j]? = some s ∧ s.owned = true ∧
  f (s.flag true :: (ds ++ dd).map S.v) (fun r fin => ∃ s' : S, fin[0]? = some s' ∧ s'.owned = true ∧ s'.inp = true ∧ Q (rvD r) (δ1.set j (s'.flag s.inp))) (fun _ _ => False)) Y
theorem slot_val {F H : Hp} {bb : B} {i : Nat} {y : Option V} {s : S} (h : SlotOk K bb F H i y s) (o : s.owned = true) : ∃ p, y = some (.ref p) ∧ Own K F H s p ∧ if s.inp = true then bb.P i = some p else bb.H0 p = none := by
  cases s with
  | no => cases o
  | v d => cases o
  | ex _ _ _ _ _ => cases o
  | ol k xs => exact h
  | oo k c ns xs => exact h
theorem slot_of {F H : Hp} {bb : B} {i : Nat} {y : Option V} {s : S} (o : s.owned = true) (h : ∃ p, y = some (.ref p) ∧ Own K F H s p ∧ if s.inp = true then bb.P i = some p else bb.H0 p = none) : SlotOk K bb F H i y s := by
  cases s with
  | no => cases o
  | v d => cases o
  | ex _ _ _ _ _ => cases o
  | ol k xs => exact h
  | oo k c ns xs => exact h
theorem slot_mono {F H F' H' : Hp} {bb : B} {i : Nat} {y : Option V} {s : S} (h : SlotOk K bb F H i y s) (sF : Same F F') (ho : s.owned = true → ∀ p, y = some (.ref p) → Own K F H s p → Own K F' H' s p) : SlotOk K bb F' H' i y s := by
  cases s with
  | no => trivial
  | v d => obtain ⟨v, h1, h2⟩ := h; exact ⟨v, h1, h2.mono sF⟩
  | ex a c d ns xs => obtain ⟨h1, h2⟩ := h; exact ⟨h1, fun dd hd => let ⟨vs, a1, a2⟩ := h2 dd hd; ⟨vs, sF _ _ a1, a2.mono sF⟩⟩
  | ol k xs => obtain ⟨p, h1, h2, h3⟩ := h; exact ⟨p, h1, ho rfl p h1 h2, h3⟩
  | oo k c ns xs => obtain ⟨p, h1, h2, h3⟩ := h; exact ⟨p, h1, ho rfl p h1 h2, h3⟩
theorem Own.keep {F H F' H' : Hp} {s : S} {p : Addr} (h : Own K F H s p) (sF : Same F F') (nF : F' p = none) (kH : ∀ o, H p = some o → H' p = some o) : Own K F' H' s p := by
  obtain ⟨h1, h2⟩ := h
  refine ⟨nF, ?_⟩
  cases s with
  | no => exact h2.elim
  | v d => exact h2.elim
  | ex _ _ _ _ _ => exact h2.elim
  | ol k xs => obtain ⟨vs, a1, a2⟩ := h2; exact ⟨vs, kH _ a1, a2.mono sF⟩
  | oo k c ns xs => obtain ⟨dx, vs, a1, a3, a2⟩ := h2; exact ⟨dx, vs, kH _ a1, a3, a2.mono sF⟩
theorem Own.at_ {F H : Hp} {s : S} {p : Addr} (h : Own K F H s p) : ∃ o, H p = some o := by
  obtain ⟨h1, h2⟩ := h
  cases s with
  | no => exact h2.elim
  | v d => exact h2.elim
  | ex _ _ _ _ _ => exact h2.elim
  | ol k xs => obtain ⟨vs, a1, a2⟩ := h2; exact ⟨_, a1⟩
  | oo k c ns xs => obtain ⟨dx, vs, a1, a3, a2⟩ := h2; exact ⟨_, a1⟩
/-- behind such a call -/
theorem callB_ok {bb : B} {δ : List S} {σ : L2.St} {F H F' H' : Hp} {j : Nat} {s s' : S} {p : Addr} {P : Nat → Option Addr} (wf : Wf bb F H) (r : Rs K bb δ σ F H) (hj : δ[j]? = some s) (hs : s.owned = true) (hp : σ[j]? = some (some (.ref p))) (hP : P = fun i => if i = 0 then some p else none)
    (w : Wf ⟨F, H, P⟩ F' H') (hs' : s'.owned = true) (own : Own K F' H' s' p) : Wf bb F' H' ∧ Rs K bb (δ.set j (s'.flag s.inp)) σ F' H' := by
  obtain ⟨q, hq, how, hb⟩ := r.own hj hs
  have e : q = p := by rw [hp] at hq; cases hq; rfl
  subst e
  obtain ⟨oq, hoq⟩ := how.at_
  have keep : ∀ a u, a ≠ q → H a = some u → H' a = some u := fun a u ne e => w.keep a u (fun i hi => by
    subst hP
    have hi' : (if i = 0 then some q else none) = some a := hi
    by_cases z : i = 0
    · rw [if_pos z] at hi'; cases hi'; exact ne rfl
    · rw [if_neg z] at hi'; cases hi') e
  refine ⟨⟨w.fh, wf.ff.trans w.ff, fun a u hn e => keep a u (fun z => ?_) (wf.keep a u hn e), fun a u e => ?_, fun a e => wf.live a (w.live a e), wf.pn⟩, by rw [List.length_set]; exact r.len, fun i t y h1 h2 => ?_, fun i l t u pp hil h1 h2 o1 o2 h3 h4 => ?_⟩
  · subst z
    cases hk : s.inp with
    | true => rw [hk, if_pos rfl] at hb; exact hn j hb
    | false => rw [hk, if_neg Bool.false_ne_true] at hb; rw [e] at hb; cases hb
  · rcases w.new a u e with z | z
    · exact wf.new a u z
    · exact .inr (wf.live a z)
  · have lt : j < δ.length := (List.getElem?_eq_some_iff.mp hj).1
    by_cases hij : j = i
    · subst hij
      rw [List.getElem?_set_self lt] at h1
      cases h1
      rw [hp] at h2
      cases h2
      exact slot_of (S.flag_owned hs') ⟨q, rfl, own.flag, by rw [S.flag_inp hs']; exact hb⟩
    · rw [List.getElem?_set_ne hij] at h1
      refine slot_mono (r.sl i t y h1 h2) w.ff fun o u hu w0 => ?_
      subst hu
      have ne : u ≠ q := fun z => by subst z; exact r.sep j i s t u hij hj h1 hs o hp h2
      obtain ⟨ou, hou⟩ := w0.at_
      refine w0.keep w.ff ?_ fun o' ho' => keep u o' ne ho'
      cases z : F' u with
      | none => rfl
      | some v =>
        rcases w.new u v z with z' | z'
        · have z2 : F u = some v := z'
          rw [w0.1] at z2; cases z2
        · have z2 : H u = none := z'
          rw [z2] at hou; cases hou
  · have back : ∀ {i : Nat} {t : S}, (δ.set j (s'.flag s.inp))[i]? = some t → t.owned = true → ∃ t' : S, δ[i]? = some t' ∧ t'.owned = true := fun {i t} h o => by
      by_cases hij : j = i
      · subst hij; exact ⟨s, hj, hs⟩
      · rw [List.getElem?_set_ne hij] at h; exact ⟨t, h, o⟩
    obtain ⟨t', h1', o1'⟩ := back h1 o1
    obtain ⟨u', h2', o2'⟩ := back h2 o2
    exact r.sep i l t' u' pp hil h1' h2' o1' o2' h3 h4
theorem tr_callB {j : Nat} {f : Fn} {dd : List D} {dvs : List V} {n : Nat} {u : Wa} {σ : L2.St} {H : Hp} {Q : VK} (hd : ∀ F, Reps K F dd dvs) (hf : ∀ as R Y, f as R Y → as.length = n) (h : Tr K W (wCallB j f dd u) σ H Q) : tCallSD (spF K n f) dvs (WE W) (tCons (tVar j) (TrA K W u)) σ H Q := by
  obtain ⟨b, δ, F, Po, Px, wf, r, ⟨⟨s0, hs0, ho0⟩, q⟩, k, kx⟩ := h
  obtain ⟨p, hp, _, _⟩ := r.own hs0 ho0
  refine ⟨_, hp, b, δ, F, _, _, wf, r, q, fun as δ1 q1 vs F1 H1 wf1 s1 r1 ra => ?_, kx⟩
  obtain ⟨ds, s, hds, hj, ho, q2⟩ := q1
  have rr := (reps_of ra hds).append (hd F1)
  have hn : (V.ref p :: (vs ++ dvs)).length = n := by
    have := hf _ _ _ q2
    rw [List.length_cons, List.length_map] at this
    rw [List.length_cons, rr.length, this]
  obtain ⟨p', hp', how, hb⟩ := r1.own hj ho
  have e : p' = p := by rw [hp] at hp'; cases hp'; rfl
  subst e
  obtain ⟨op, hop⟩ := how.at_
  let P : Nat → Option Addr := fun i => if i = 0 then some p' else none
  have ra2 : Rs K ⟨F1, H1, P⟩ (s.flag true :: (ds ++ dd).map S.v) ((V.ref p' :: (vs ++ dvs)).map some) F1 H1 := by
    have r0 : Rs K ⟨F1, H1, P⟩ ((ds ++ dd).map S.v) ((vs ++ dvs).map some) F1 H1 := rs_args rr
    have only : ∀ {i : Nat} {t : S}, (s.flag true :: (ds ++ dd).map S.v)[i + 1]? = some t → ∃ d, t = .v d := fun {i t} h => by
      have h1' : ((ds ++ dd).map S.v)[i]? = some t := h
      rw [List.getElem?_map] at h1'
      cases q : (ds ++ dd)[i]? with
      | none => rw [q] at h1'; cases h1'
      | some d => rw [q] at h1'; cases h1'; exact ⟨d, rfl⟩
    refine ⟨by rw [List.map_cons, List.length_cons, List.length_cons, r0.len], fun i t y h1 h2 => ?_, fun i l t u q hil h1 h2 o1 o2 h3 h4 => ?_⟩
    · cases i with
      | zero =>
        cases h1; cases h2
        exact slot_of (S.flag_owned ho) ⟨p', rfl, how.flag, by rw [S.flag_inp ho]; rfl⟩
      | succ i =>
        have z := r0.sl i t y h1 h2
        obtain ⟨d, rfl⟩ := only h1
        exact z
    · have z : ∀ {i : Nat} {t : S}, (s.flag true :: (ds ++ dd).map S.v)[i]? = some t → t.owned = true → i = 0 := fun {i t} h o => by
        cases i with
        | zero => rfl
        | succ i => obtain ⟨d, rfl⟩ := only h; cases o
      exact hil ((z h1 o1).trans (z h2 o2).symm)
  refine ⟨F1, P, _, _, _, hn, wf1.fh, fun i a e => ?_, ra2, q2, fun rv fin q3 v F' H' w fin' ok => ?_, fun er fin z => z.elim⟩
  · by_cases z : i = 0
    · subst z; cases e; exact ⟨_, hop⟩
    · have : P i = none := if_neg z
      rw [this] at e; cases e
  · obtain ⟨s', h0, ho', hi', q4⟩ := q3
    have own := fin' 0 s' p' h0 rfl hi'
    obtain ⟨w2, r2⟩ := callB_ok (P := P) wf1 r1 hj ho hp rfl w ho' own
    cases rv with
    | d d => exact k _ _ q4 v F' H' w2 (s1.trans w.ff) r2 ok
    | l xs =>
      obtain ⟨p2, rfl, ho2, h02⟩ := ok
      have n2 : H1 p2 = none := h02
      have na : NewAt K b (δ1.set j (s'.flag s.inp)) σ F' H' xs p2 := ⟨ho2, wf1.live p2 n2, fun l t hl hto e => by
        have back : ∃ t' : S, δ1[l]? = some t' ∧ t'.owned = true := by
          by_cases hjl : j = l
          · subst hjl; exact ⟨s, hj, ho⟩
          · rw [List.getElem?_set_ne hjl] at hl; exact ⟨t, hl, hto⟩
        obtain ⟨t', h1', o1'⟩ := back
        exact r1.notNew n2 l t' h1' o1' e⟩
      obtain ⟨F2, a1, a2, a3, a4⟩ := freeze w2 r2 na
      exact k _ _ q4 _ F2 H' a1 ((s1.trans w.ff).trans a2) a3 a4
theorem x_callB' (j : Nat) {xb : Str} {pb : Pos} {u : Wa} (F : FnG X.prog X.w X.K X.mg X.base (L2.CX X.prog X.w) k f fd ps (spF X.K n ff)) (hr : RmG k X.A) (hm : X.mg x = some (.ref f)) (hk : PySem.W.keepIn X.K (.ref f) = true) (hb : Binds X.K fd ps dvl) (hd : Vals dvs dvl) (hdd : ∀ F, Reps X.K F dd dvs)
    (tk : Takes X W) (hf : ∀ as R Y, ff as R Y → as.length = n) (ha : PA X es (TrA X.K W u)) (hN : X.N[j]? = some xb := by rfl) (hv : Vis X.env.scope xb := by first | exact Or.inl rfl | exact Or.inr (Or.inl rfl) | exact Or.inr (Or.inr rfl)) (hd1 : (xb == ("__debug__" : Str)) = false := by decide)
    (hcd : (xb == ("__classdict__" : Str)) = false := by decide) (hg : Gl X x := by rfl) (hdb : (x == ("__debug__" : Str)) = false := by decide) (he : starEach (.Name xb pb :: es) X.env = (false, eval (.Name xb pb) X.env) :: starEach es X.env := by rfl)
    (hpl : (backTo pos (starEach es X.env)).any (·.1) = false := by rfl) : PE X (.Call (.Name x p) (.Name xb pb :: es) [] pos) (Tr X.K W (wCallB j ff dd u)) :=
  pe_imp (pe_callG F hr hg hm hk hb hd (fun σ => passAt tk σ) (pa_cons (pe_var hN hv hd1 hcd) ha he) hdb he hpl) fun _ _ _ => tr_callB hdd hf
end
end L3

set_option Elab.async false
set_option linter.all false
set_option maxRecDepth 100000
set_option maxHeartbeats 1000000
namespace L3
open PySem L2
section
variable {X : Cx} {K : PySem.W.Frag} {W : WX} {e a b c o tg : Expr} {es : List Expr} {t : TE} {pos : Pos}
variable {k n : Nat} {f C g pp : Addr} {fd : FuncData} {ps : List Str} {ff : Fn} {dvs : List V} {dvl : List Value} {dd : List D} {x m : Str} {p apos : Pos}

/-! ### list comprehensions -/
theorem wipe_get (σ : L2.St) : ∀ (vs : List Nat) (j : Nat), (wipe σ vs)[j]? = if j ∈ vs then σ[j]?.map fun _ => none else σ[j]?
  | [], j => rfl
  | v :: vs, j => by
    show ((wipe σ vs).set v none)[j]? = _
    by_cases h : v = j
    · subst h
      rw [if_pos List.mem_cons_self]
      by_cases hl : v < List.length σ
      · rw [List.getElem?_set_self (by rw [wipe_length]; exact hl), List.getElem?_eq_getElem hl]; rfl
      · rw [List.getElem?_eq_none (by rw [List.length_set, wipe_length]; omega), List.getElem?_eq_none (by omega)]; rfl
    · rw [List.getElem?_set_ne h, wipe_get σ vs j]
      by_cases h2 : j ∈ vs
      · rw [if_pos h2, if_pos (List.mem_cons_of_mem _ h2)]
      · rw [if_neg h2, if_neg (fun z => by rcases List.mem_cons.mp z with z | z; exact h z.symm; exact h2 z)]
def wipeS (δ : List S) : List Nat → List S
  | [] => δ
  | v :: vs => (wipeS δ vs).set v .no
theorem wipeS_length (δ : List S) : ∀ vs : List Nat, (wipeS δ vs).length = δ.length
  | [] => rfl
  | v :: vs => by unfold wipeS; rw [List.length_set, wipeS_length δ vs]
theorem wipeS_get (δ : List S) : ∀ (vs : List Nat) (j : Nat), (wipeS δ vs)[j]? = if j ∈ vs then δ[j]?.map fun _ => S.no else δ[j]?
  | [], j => rfl
  | v :: vs, j => by
    show ((wipeS δ vs).set v .no)[j]? = _
    by_cases h : v = j
    · subst h
      rw [if_pos List.mem_cons_self]
      by_cases hl : v < δ.length
      · rw [List.getElem?_set_self (by rw [wipeS_length]; exact hl), List.getElem?_eq_getElem hl]; rfl
      · rw [List.getElem?_eq_none (by rw [List.length_set, wipeS_length]; omega), List.getElem?_eq_none (by omega)]; rfl
    · rw [List.getElem?_set_ne h, wipeS_get δ vs j]
      by_cases h2 : j ∈ vs
      · rw [if_pos h2, if_pos (List.mem_cons_of_mem _ h2)]
      · rw [if_neg h2, if_neg (fun z => by rcases List.mem_cons.mp z with z | z; exact h z.symm; exact h2 z)]
theorem Rs.wipe {bb : B} {δ : List S} {σ : L2.St} {F H : Hp} (r : Rs K bb δ σ F H) (vs : List Nat) : Rs K bb (wipeS δ vs) (L2.wipe σ vs) F H := by
  refine ⟨by rw [wipe_length, wipeS_length]; exact r.len, fun i s y h1 h2 => ?_, fun i j s t p hij h1 h2 o1 o2 h3 h4 => ?_⟩
  · rw [wipeS_get] at h1
    rw [wipe_get] at h2
    by_cases h : i ∈ vs
    · rw [if_pos h] at h1
      cases q : δ[i]? with
      | none => rw [q] at h1; cases h1
      | some s' => rw [q] at h1; cases h1; trivial
    · rw [if_neg h] at h1 h2
      exact r.sl i s y h1 h2
  · have un : ∀ {i : Nat} {s : S}, (wipeS δ vs)[i]? = some s → s.owned = true → i ∉ vs ∧ δ[i]? = some s := fun {i s} h o => by
      rw [wipeS_get] at h
      by_cases hi : i ∈ vs
      · rw [if_pos hi] at h
        cases q : δ[i]? with
        | none => rw [q] at h; cases h
        | some s' => rw [q] at h; cases h; cases o
      · rw [if_neg hi] at h; exact ⟨hi, h⟩
    obtain ⟨n1, g1⟩ := un h1 o1
    obtain ⟨n2, g2⟩ := un h2 o2
    rw [wipe_get, if_neg n1] at h3
    rw [wipe_get, if_neg n2] at h4
    exact r.sep i j s t p hij g1 g2 o1 o2 h3 h4
/-- the slots of the block's own names as they were -/
def backS (δ0 : List S) : List Nat → List S → List S
  | [], δ => δ
  | v :: vs, δ => (backS δ0 vs δ).set v (δ0.getD v .no)
theorem backS_length (δ0 δ : List S) : ∀ vs : List Nat, (backS δ0 vs δ).length = δ.length
  | [] => rfl
  | v :: vs => by unfold backS; rw [List.length_set, backS_length δ0 δ vs]
theorem backS_get (δ0 δ : List S) (hl : δ.length = δ0.length) : ∀ (vs : List Nat) (j : Nat), (backS δ0 vs δ)[j]? = if j ∈ vs then δ0[j]? else δ[j]?
  | [], j => rfl
  | v :: vs, j => by
    show ((backS δ0 vs δ).set v (δ0.getD v .no))[j]? = _
    by_cases h : v = j
    · subst h
      rw [if_pos List.mem_cons_self]
      by_cases hv : v < δ0.length
      · rw [List.getElem?_set_self (by rw [backS_length]; omega), List.getD_eq_getElem?_getD, List.getElem?_eq_getElem hv]; rfl
      · rw [List.getElem?_eq_none (by rw [List.length_set, backS_length]; omega), List.getElem?_eq_none (by omega)]
    · rw [List.getElem?_set_ne h, backS_get δ0 δ hl vs j]
      by_cases h2 : j ∈ vs
      · rw [if_pos h2, if_pos (List.mem_cons_of_mem _ h2)]
      · rw [if_neg h2, if_neg (fun z => by rcases List.mem_cons.mp z with z | z; exact h z.symm; exact h2 z)]
theorem Rs.back {bb : B} {δ0 δ : List S} {σ : L2.St} {F0 H0 F H : Hp} (r0 : Rs K bb δ0 σ F0 H0) (s : Same F0 F) {vs : List Nat} (hu : ∀ v ∈ vs, ∀ s : S, δ0[v]? = some s → s.owned = false) (r : Rs K bb δ (L2.wipe σ vs) F H) : Rs K bb (backS δ0 vs δ) σ F H := by
  have hl : δ.length = δ0.length := by rw [← r.len, wipe_length, r0.len]
  refine ⟨by rw [backS_length, hl]; exact r0.len, fun i s' y h1 h2 => ?_, fun i j s' t p hij h1 h2 o1 o2 h3 h4 => ?_⟩
  · rw [backS_get _ _ hl] at h1
    by_cases h : i ∈ vs
    · rw [if_pos h] at h1
      have o := hu i h s' h1
      exact slot_mono (r0.sl i s' y h1 h2) s fun z => by rw [o] at z; cases z
    · rw [if_neg h] at h1
      exact r.sl i s' y h1 (by rw [wipe_get, if_neg h]; exact h2)
  · have un : ∀ {i : Nat} {s' : S}, (backS δ0 vs δ)[i]? = some s' → s'.owned = true → i ∉ vs ∧ δ[i]? = some s' := fun {i s'} h o => by
      rw [backS_get _ _ hl] at h
      by_cases hi : i ∈ vs
      · rw [if_pos hi] at h; rw [hu i hi s' h] at o; cases o
      · rw [if_neg hi] at h; exact ⟨hi, h⟩
    obtain ⟨n1, g1⟩ := un h1 o1
    obtain ⟨n2, g2⟩ := un h2 o2
    exact r.sep i j s' t p hij g1 g2 o1 o2 (by rw [wipe_get, if_neg n1]; exact h3) (by rw [wipe_get, if_neg n2]; exact h4)
/-- a base that keeps one more thing as it stands -/
def B.add (bb : B) (d : Addr) (o : HO) : B := ⟨bb.F0, fun a => if a = d then some o else bb.H0 a, bb.P⟩
theorem Wf.add {bb : B} {F H : Hp} {d : Addr} {o : HO} (w : Wf bb F H) (h0 : bb.H0 d = none) (nF : F d = none) (hd : H d = some o) : Wf (bb.add d o) F H := by
  refine ⟨w.fh, w.ff, fun a u hn e => ?_, fun a u e => ?_, fun a e => ?_, fun i p hp => ?_⟩
  · have e' : (if a = d then some o else bb.H0 a) = some u := e
    by_cases z : a = d
    · subst z; rw [if_pos rfl] at e'; cases e'; exact hd
    · rw [if_neg z] at e'; exact w.keep a u hn e'
  · rcases w.new a u e with q | q
    · exact .inl q
    · refine .inr ?_
      show (if a = d then some o else bb.H0 a) = none
      have ne : a ≠ d := fun z => by subst z; rw [nF] at e; cases e
      rw [if_neg ne]; exact q
  · show (if a = d then some o else bb.H0 a) = none
    have ne : a ≠ d := fun z => by subst z; rw [hd] at e; cases e
    rw [if_neg ne]; exact w.live a e
  · obtain ⟨u, hu⟩ := w.pn i p hp
    refine ⟨u, ?_⟩
    show (if p = d then some o else bb.H0 p) = some u
    have ne : p ≠ d := fun z => by subst z; rw [h0] at hu; cases hu
    rw [if_neg ne]; exact hu
theorem Rs.add {bb : B} {δ : List S} {σ : L2.St} {F H : Hp} {d : Addr} {o : HO} (r : Rs K bb δ σ F H) (hn : ∀ (j : Nat) (s : S), δ[j]? = some s → s.owned = true → σ[j]? ≠ some (some (.ref d))) : Rs K (bb.add d o) δ σ F H := by
  refine ⟨r.len, fun i s y h1 h2 => ?_, r.sep⟩
  have z := r.sl i s y h1 h2
  by_cases ho : s.owned = true
  · obtain ⟨p, a1, a2, a3⟩ := slot_val z ho
    refine slot_of ho ⟨p, a1, a2, ?_⟩
    cases hk : s.inp with
    | true => rw [hk, if_pos rfl] at a3; rw [if_pos rfl]; exact a3
    | false =>
      rw [hk, if_neg Bool.false_ne_true] at a3
      rw [if_neg Bool.false_ne_true]
      show (if p = d then some o else bb.H0 p) = none
      have ne : p ≠ d := fun z => hn i s h1 ho (by rw [h2, a1, z])
      rw [if_neg ne]; exact a3
  · cases s with
    | no => trivial
    | v d => exact z
    | ex _ _ _ _ _ => exact z
    | ol k xs => exact absurd rfl ho
    | oo k c ns xs => exact absurd rfl ho
theorem Rs.sub {bb : B} {δ : List S} {σ : L2.St} {F H : Hp} {d : Addr} {o : HO} (h0 : bb.H0 d = none) (r : Rs K (bb.add d o) δ σ F H) : Rs K bb δ σ F H := by
  refine ⟨r.len, fun i s y h1 h2 => ?_, r.sep⟩
  have z := r.sl i s y h1 h2
  by_cases ho : s.owned = true
  · obtain ⟨p, a1, a2, a3⟩ := slot_val z ho
    refine slot_of ho ⟨p, a1, a2, ?_⟩
    cases hk : s.inp with
    | true => rw [hk, if_pos rfl] at a3; rw [if_pos rfl]; exact a3
    | false =>
      rw [hk, if_neg Bool.false_ne_true] at a3
      rw [if_neg Bool.false_ne_true]
      have a3' : (if p = d then some o else bb.H0 p) = none := a3
      by_cases q : p = d
      · rw [q]; exact h0
      · rw [if_neg q] at a3'; exact a3'
  · cases s with
    | no => trivial
    | v d => exact z
    | ex _ _ _ _ _ => exact z
    | ol k xs => exact absurd rfl ho
    | oo k c ns xs => exact absurd rfl ho
theorem Wf.sub {bb : B} {F H : Hp} {d : Addr} {o : HO} (h0 : bb.H0 d = none) (hp : ∀ i, bb.P i ≠ some d) (hF : bb.F0 d = none) (w : Wf (bb.add d o) F H) : Wf bb F H ∧ F d = none ∧ H d = some o := by
  refine ⟨⟨w.fh, w.ff, fun a u hn e => w.keep a u hn ?_, fun a u e => ?_, fun a e => ?_, fun i p hi => ?_⟩, ?_, w.keep d o hp ?_⟩
  · show (if a = d then some o else bb.H0 a) = some u
    have ne : a ≠ d := fun z => by subst z; rw [h0] at e; cases e
    rw [if_neg ne]; exact e
  · rcases w.new a u e with q | q
    · exact .inl q
    · refine .inr ?_
      have q' : (if a = d then some o else bb.H0 a) = none := q
      by_cases z : a = d
      · rw [if_pos z] at q'; cases q'
      · rw [if_neg z] at q'; exact q'
  · have q' : (if a = d then some o else bb.H0 a) = none := w.live a e
    by_cases z : a = d
    · rw [if_pos z] at q'; cases q'
    · rw [if_neg z] at q'; exact q'
  · obtain ⟨u, hu⟩ := w.pn i p hi
    have hu' : (if p = d then some o else bb.H0 p) = some u := hu
    by_cases z : p = d
    · subst z; exact absurd hi (hp i)
    · rw [if_neg z] at hu'; exact ⟨u, hu'⟩
  · cases q : F d with
    | none => rfl
    | some u =>
      rcases w.new d u q with z | z
      · have z' : bb.F0 d = some u := z
        rw [hF] at z'; cases z'
      · have z' : (if d = d then some o else bb.H0 d) = none := z
        rw [if_pos rfl] at z'; cases z'
  · show (if d = d then some o else bb.H0 d) = some o
    rw [if_pos rfl]
/-- the turns of a comprehension -/
def lcD (g : Wg) (t : Wb) (u : Wt) (vs : List Nat) (δ0 : List S) (Q : List D → List S → Prop) : List D → List D → List S → Prop
  | [], acc, δ => Q acc (backS δ0 vs δ)
  | y :: ys, acc, δ => g y δ fun δ1 => t δ1 (fun c δ2 => if c = true then u δ2 (fun d δ3 => acc.length < 1000 ∧ δ3.map S.owned = δ.map S.owned ∧ lcD g t u vs δ0 Q ys (acc ++ [d]) (wipeS δ3 vs)) (fun _ _ => False)
      else δ2.map S.owned = δ.map S.owned ∧ lcD g t u vs δ0 Q ys acc (wipeS δ2 vs)) (fun _ _ => False)
def wLc (wi : Wi) (g : Wg) (t : Wb) (u : Wt) (vs : List Nat) : Wl := fun δ Q Y => wi δ (fun items δ1 => (∀ v ∈ vs, ∀ s : S, δ1[v]? = some s → s.owned = false) ∧ lcD g t u vs δ1 Q items [] (wipeS δ1 vs)) Y
theorem own_pat {δ δ' : List S} (h : δ'.map S.owned = δ.map S.owned) {j : Nat} {s : S} (hj : δ'[j]? = some s) (o : s.owned = true) : ∃ s' : S, δ[j]? = some s' ∧ s'.owned = true := by
  have e : (δ'.map S.owned)[j]? = (δ.map S.owned)[j]? := by rw [h]
  rw [List.getElem?_map, List.getElem?_map, hj] at e
  cases q : δ[j]? with
  | none => rw [q] at e; cases e
  | some s' =>
    rw [q] at e
    have e' : s.owned = s'.owned := Option.some.inj e
    exact ⟨s', rfl, by rw [← e']; exact o⟩
theorem pat_wipe {δ : List S} {vs : List Nat} {δ' : List S} (hu : ∀ v ∈ vs, ∀ s : S, δ[v]? = some s → s.owned = false) (h : δ'.map S.owned = δ.map S.owned) : (wipeS δ' vs).map S.owned = δ.map S.owned := by
  apply List.ext_getElem?
  intro j
  have e : (δ'.map S.owned)[j]? = (δ.map S.owned)[j]? := by rw [h]
  rw [List.getElem?_map, List.getElem?_map] at e
  rw [List.getElem?_map, List.getElem?_map, wipeS_get]
  by_cases hj : j ∈ vs
  · rw [if_pos hj]
    cases q : δ[j]? with
    | none =>
      rw [q] at e
      cases q' : δ'[j]? with
      | none => rfl
      | some s' => rw [q'] at e; cases e
    | some s =>
      rw [q] at e
      cases q' : δ'[j]? with
      | none => rw [q'] at e; cases e
      | some s' =>
        show some (S.no.owned) = some s.owned
        rw [hu j hj s q]
        exact congrArg some (show S.no.owned = false from rfl)
  · rw [if_neg hj]; exact e
theorem wipe_only {σ σ2 : L2.St} {vs ts : List Nat} (ho : Only ts (L2.wipe σ vs) σ2) (hs : ∀ j ∈ ts, j ∈ vs) : L2.wipe σ2 vs = L2.wipe σ vs := by
  have hl : List.length σ2 = List.length σ := ho.1.trans (wipe_length _ _)
  apply List.ext_getElem?
  intro j
  rw [wipe_get, wipe_get]
  by_cases hj : j ∈ vs
  · rw [if_pos hj, if_pos hj]
    by_cases h : j < List.length σ
    · rw [List.getElem?_eq_getElem h, List.getElem?_eq_getElem (by omega)]; rfl
    · rw [List.getElem?_eq_none (by omega), List.getElem?_eq_none (by omega)]
  · rw [if_neg hj, if_neg hj, ho.2 j (fun z => hj (hs j z)), wipe_get, if_neg hj]
theorem tr_lc {wi : Wi} {g : Wg} {t : Wb} {u : Wt} {vs ts : List Nat} {σ : L2.St} {H : Hp} {Q : VK} (hts : ∀ j ∈ ts, j ∈ vs) (h : TrL K W (wLc wi g t u vs) σ H Q) : tLc (TrI K W wi) (TrG K ts g) (TrT K W0 t) (Tr K W0 u) vs σ H Q := by
  obtain ⟨bb, δ, F, Po, Px, wf, r, q, k, kx⟩ := h
  refine ⟨bb, δ, F, _, _, wf, r, q, fun items δ1 q1 J F1 H1 wf1 s1 r1 it => ?_, kx⟩
  obtain ⟨hu, q1⟩ := q1
  intro Dn nD
  have h0 : bb.H0 Dn = none := wf1.live Dn nD
  have hP : ∀ i, bb.P i ≠ some Dn := fun i z => by
    obtain ⟨o, ho⟩ := wf1.pn i Dn z
    rw [h0] at ho; cases ho
  have nF1 : F1 Dn = none := wf1.fh.free nD
  have hF0 : bb.F0 Dn = none := wf1.ff.free nF1
  have nj := r1.notNew nD
  have njw : ∀ (δ' : List S), δ'.map S.owned = (wipeS δ1 vs).map S.owned → ∀ (j : Nat) (s : S), δ'[j]? = some s → s.owned = true → (L2.wipe σ vs)[j]? ≠ some (some (.ref Dn)) := fun δ' hp j s hj o z => by
    obtain ⟨s', hs', o'⟩ := own_pat hp hj o
    rw [wipeS_get] at hs'
    by_cases hv : j ∈ vs
    · rw [if_pos hv] at hs'
      cases q : δ1[j]? with
      | none => rw [q] at hs'; cases hs'
      | some s2 => rw [q] at hs'; cases hs'; cases o'
    · rw [if_neg hv] at hs'
      rw [wipe_get, if_neg hv] at z
      exact nj j s' hs' o' z
  have hun : ∀ (δ' : List S), δ'.map S.owned = (wipeS δ1 vs).map S.owned → ∀ v ∈ vs, ∀ s : S, δ'[v]? = some s → s.owned = false := fun δ' hp v hv s hs => by
    cases ho : s.owned with
    | false => rfl
    | true =>
      obtain ⟨s', hs', o'⟩ := own_pat hp hs ho
      rw [wipeS_get, if_pos hv] at hs'
      cases q : δ1[v]? with
      | none => rw [q] at hs'; cases hs'
      | some s2 => rw [q] at hs'; cases hs'; cases o'
  have ex0 := Ext.beside (o := .lst []) wf1.fh nD
  refine ⟨fun i m H' => ∃ δ' F' acc accv, Wf bb F' H' ∧ Same F1 F' ∧ Rs K bb δ' (L2.wipe σ vs) F' H' ∧ H' Dn = some (.lst accv) ∧ F' Dn = none ∧ Reps K F' acc accv ∧ i ≤ items.length ∧ m = items.length - i ∧ δ'.map S.owned = (wipeS δ1 vs).map S.owned ∧ lcD g t u vs δ1 Po (items.drop i) acc δ',
    ⟨_, wipeS δ1 vs, F1, [], [], wf1.ext ex0, Same.refl _, (r1.ext ex0).wipe vs, upd_same, nF1, rfl, Nat.zero_le _, rfl, rfl, q1⟩, ?_⟩
  rintro i m H' ⟨δ', F', acc, accv, wf', s', r', hD, nF', racc, hi, rfl, hpat, lp⟩
  obtain ⟨st, go⟩ := it F' H' s' wf'.fh
  by_cases hlt : i < items.length
  · refine .inr ?_
    have hd : items[i]? = some items[i] := List.getElem?_eq_getElem hlt
    obtain ⟨g1, g2⟩ := go i _ hd
    refine ⟨g1, fun H2 => ∃ δ2 F2 acc2 accv2, Wf bb F2 H2 ∧ Same F1 F2 ∧ Rs K bb δ2 (L2.wipe σ vs) F2 H2 ∧ H2 Dn = some (.lst accv2) ∧ F2 Dn = none ∧ Reps K F2 acc2 accv2 ∧ δ2.map S.owned = (wipeS δ1 vs).map S.owned ∧ lcD g t u vs δ1 Po (items.drop (i + 1)) acc2 δ2,
      fun H2 ⟨δ2, F2, acc2, accv2, a1, a2, a3, a4, a5, a6, a7, a8⟩ => ⟨items.length - (i + 1), by omega, δ2, F2, acc2, accv2, a1, a2, a3, a4, a5, a6, hlt, rfl, a7, a8⟩, fun y H'' hy => ?_⟩
    obtain ⟨F'', ex, ry⟩ := g2 y H'' hy
    rw [List.drop_eq_getElem_cons hlt] at lp
    have wfx := wf'.ext ex
    have rx := r'.ext ex
    have hD'' : H'' Dn = some (.lst accv) := ex.hh _ _ hD
    have nF'' : F'' Dn = none := by
      cases z : F'' Dn with
      | none => rfl
      | some v =>
        rcases ex.new Dn v z with z' | z'
        · rw [nF'] at z'; cases z'
        · rw [hD] at z'; cases z'
    have wA := wfx.add h0 nF'' hD''
    have rA := rx.add (o := .lst accv) (njw δ' hpat)
    have sx : Same F1 F'' := s'.trans ex.ff
    refine ⟨bb.add Dn (.lst accv), δ', F'', _, _, wA, rA, ry, lp, fun δ2 q2 σ2 o2 r2 => ?_⟩
    have hw : L2.wipe σ2 vs = L2.wipe σ vs := wipe_only o2 hts
    refine ⟨hw, bb.add Dn (.lst accv), δ2, F'', _, _, wA, r2, q2, fun c δ3 q3 F3 H3 wf3 s3 r3 => ?_, fun er δ' z => z.elim⟩
    cases c with
    | true =>
      rw [if_pos rfl] at q3
      refine iteT ⟨bb.add Dn (.lst accv), δ3, F3, _, _, wf3, r3, q3, fun d δ4 q4 v F4 H4 wf4 s4 r4 rv => ?_, fun er δ' z => z.elim⟩
      obtain ⟨hl, hp4, q4⟩ := q4
      obtain ⟨w5, nF5, hD5⟩ := wf4.sub h0 hP hF0
      refine ⟨accv, hD5, by rw [racc.length]; exact small1000 (by omega), ?_⟩
      have ra4 : Reps K F4 acc accv := racc.mono ((ex.ff.trans s3).trans s4)
      have pat4 : δ4.map S.owned = (wipeS δ1 vs).map S.owned := hp4.trans hpat
      have r4w : Rs K (bb.add Dn (.lst accv)) (wipeS δ4 vs) (L2.wipe σ vs) F4 H4 := by rw [← hw]; exact r4.wipe vs
      have pw : (wipeS δ4 vs).map S.owned = (wipeS δ1 vs).map S.owned := by
        have := pat_wipe (δ := δ') (vs := vs) (δ' := δ4) (hun δ' hpat) hp4
        exact this.trans hpat
      have ne : ∀ {a : Addr} {o : HO}, F4 a = some o → a ≠ Dn := fun {a o} e z => by subst z; rw [nF5] at e; cases e
      refine ⟨wipeS δ4 vs, F4, acc ++ [d], accv ++ [v], ⟨fun a o e => by rw [upd_ne (ne e)]; exact w5.fh a o e, w5.ff, fun a o hn e => ?_, w5.new, fun a e => ?_, w5.pn⟩, (sx.trans s3).trans s4, ?_, upd_same, nF5, ra4.append (Reps.cons rv rfl), pw, q4⟩
      · have ne2 : a ≠ Dn := fun z => by subst z; rw [h0] at e; cases e
        rw [upd_ne ne2]; exact w5.keep a o hn e
      · by_cases z : a = Dn
        · subst z; exact h0
        · rw [upd_ne z] at e; exact w5.live a e
      · have r5 := r4w.sub h0
        refine ⟨r5.len, fun j s y' h1 h2 => slot_mono (r5.sl j s y' h1 h2) (Same.refl _) fun o p hp w => w.keep (Same.refl _) w.1 fun o' ho' => ?_, r5.sep⟩
        have ne3 : p ≠ Dn := fun z => by
          subst z
          exact njw _ pw j s h1 o (by rw [h2, hp])
        rw [upd_ne ne3]; exact ho'
    | false =>
      rw [if_neg Bool.false_ne_true] at q3
      refine iteF ?_
      obtain ⟨hp3, q3⟩ := q3
      obtain ⟨w5, nF5, hD5⟩ := wf3.sub h0 hP hF0
      have r3w : Rs K (bb.add Dn (.lst accv)) (wipeS δ3 vs) (L2.wipe σ vs) F3 H3 := by rw [← hw]; exact r3.wipe vs
      have pw : (wipeS δ3 vs).map S.owned = (wipeS δ1 vs).map S.owned := (pat_wipe (δ := δ') (vs := vs) (δ' := δ3) (hun δ' hpat) hp3).trans hpat
      exact ⟨wipeS δ3 vs, F3, acc, accv, w5, sx.trans s3, r3w.sub h0, hD5, nF5, racc.mono (ex.ff.trans s3), pw, q3⟩
  · have e : i = items.length := by omega
    subst e
    rw [List.drop_length] at lp
    refine .inl ⟨st, k acc _ lp Dn F' H' wf' (s1.trans s') (r1.back s' hu r') ⟨⟨nF', accv, hD, racc⟩, h0, fun j s hj o z => ?_⟩⟩
    have hl : δ'.length = δ1.length := by rw [← r'.len, wipe_length, r1.len]
    rw [backS_get _ _ hl] at hj
    by_cases hv : j ∈ vs
    · rw [if_pos hv] at hj; rw [hu j hv s hj] at o; cases o
    · rw [if_neg hv] at hj
      exact njw δ' hpat j s hj o (by rw [wipe_get, if_neg hv]; exact z)
theorem x_yes : PTs X [] (TrT K W (fun δ Q _ => Q true δ)) := ⟨fun pins s σ H Q I h => by
  obtain ⟨b, δ, F, Po, Px, wf, r, q, k, _⟩ := h
  exact pts_nil.run pins s σ H Q I (k true δ q F H wf (Same.refl _) r)⟩
theorem x_pt1 {t : Wb} (h : PT X c (TrT K W t)) : PTs X [c] (TrT K W t) := pts_one h
/-- [elt for tg in iter if ..], a list of its own -/
theorem xl_lc {elt iter : Expr} {ifs : List Expr} {scope : Scope} {own : List (Str × Nat)} {wi : Wi} {g : Wg} {t : Wb} {u : Wt} {ts : List Nat} (hc : X.calm = true) (hN : X.N.Nodup) (hi : PI X tg iter (TrI X.K W wi)) (ok : BlkOk X.N X.env.scope scope own) (hts : ∀ j ∈ ts, j ∈ own.map (·.2))
    (hg : ∀ (s : Shared) (H : Hp) (C : Addr) (cl : List (Str × Addr)) (fp : List Addr), PG (X.blk s H scope (PySem.compEnvC scope cl C X.env) fp) tg (TrG X.K ts g)) (ht : ∀ (s : Shared) (H : Hp) (C : Addr) (cl : List (Str × Addr)) (fp : List Addr), PTs (X.blk s H scope (PySem.compEnvC scope cl C X.env) fp) ifs (TrT X.K W0 t))
    (he : ∀ (s : Shared) (H : Hp) (C : Addr) (cl : List (Str × Addr)) (fp : List Addr), PE (X.blk s H scope (PySem.compEnvC scope cl C X.env) fp) elt (Tr X.K W0 u)) (hs : ∀ x, foldedSetIterable iter X.env x = pure x := by intro _; rfl) :
    PE X (.ListComp elt [⟨tg, iter, ifs, 0⟩] scope pos) (TrL X.K W (wLc wi g t u (own.map (·.2)))) := pe_imp (pe_lc hc hN hi ok hg ht he hs) fun _ _ _ => tr_lc hts
theorem s_setLc {elt iter : Expr} {ifs : List Expr} {scope : Scope} {own : List (Str × Nat)} {wi : Wi} {g : Wg} {t : Wb} {u : Wt} {ts : List Nat} (i : Nat) {y : Str} {py spos : Pos} (hc : X.calm = true) (hN : X.N.Nodup) (hi : PI X tg iter (TrI X.K W wi)) (ok : BlkOk X.N X.env.scope scope own) (hts : ∀ j ∈ ts, j ∈ own.map (·.2))
    (hg : ∀ (s : Shared) (H : Hp) (C : Addr) (cl : List (Str × Addr)) (fp : List Addr), PG (X.blk s H scope (PySem.compEnvC scope cl C X.env) fp) tg (TrG X.K ts g)) (ht : ∀ (s : Shared) (H : Hp) (C : Addr) (cl : List (Str × Addr)) (fp : List Addr), PTs (X.blk s H scope (PySem.compEnvC scope cl C X.env) fp) ifs (TrT X.K W0 t))
    (he : ∀ (s : Shared) (H : Hp) (C : Addr) (cl : List (Str × Addr)) (fp : List Addr), PE (X.blk s H scope (PySem.compEnvC scope cl C X.env) fp) elt (Tr X.K W0 u))
    (hy : X.N[i]? = some y := by rfl) (hyl : X.env.scope.names.lookup y = some .local := by rfl) (hsw : swapsWith (.ListComp elt [⟨tg, iter, ifs, 0⟩] scope pos) (some (.Name y py)) spos.line X.env = pure true) (hs : ∀ x, foldedSetIterable iter X.env x = pure x := by intro _; rfl) :
    PS X (.Assign [.Name y py] (.ListComp elt [⟨tg, iter, ifs, 0⟩] scope pos) spos) (TrS X.K W (wSetL i (wLc wi g t u (own.map (·.2))))) := ps_imp (ps_setLc hc hN hy hyl hsw hi ok hg ht he hs) fun Dn σ H h => by
  obtain ⟨b, δ, F, E, wf, r, q, k1, k2, k3, k4, k5⟩ := h
  exact tr_lc hts ⟨b, δ, F, _, _, wf, r, q, fun d δ1 q1 p F1 H1 wf1 s1 r1 n => k1 _ q1 _ F1 H1 wf1 s1 (r1.setL n), k5_of k5⟩
/-- the same, let go at once -/
def wSetF (i : Nat) (u : Wl) : Ws := fun δ E => u δ (fun xs δ1 => E.nx (δ1.set i (.v (.lst xs)))) E.xx
theorem s_setLcF {elt iter : Expr} {ifs : List Expr} {scope : Scope} {own : List (Str × Nat)} {wi : Wi} {g : Wg} {t : Wb} {u : Wt} {ts : List Nat} (i : Nat) {y : Str} {py spos : Pos} (hc : X.calm = true) (hN : X.N.Nodup) (hi : PI X tg iter (TrI X.K W wi)) (ok : BlkOk X.N X.env.scope scope own) (hts : ∀ j ∈ ts, j ∈ own.map (·.2))
    (hg : ∀ (s : Shared) (H : Hp) (C : Addr) (cl : List (Str × Addr)) (fp : List Addr), PG (X.blk s H scope (PySem.compEnvC scope cl C X.env) fp) tg (TrG X.K ts g)) (ht : ∀ (s : Shared) (H : Hp) (C : Addr) (cl : List (Str × Addr)) (fp : List Addr), PTs (X.blk s H scope (PySem.compEnvC scope cl C X.env) fp) ifs (TrT X.K W0 t))
    (he : ∀ (s : Shared) (H : Hp) (C : Addr) (cl : List (Str × Addr)) (fp : List Addr), PE (X.blk s H scope (PySem.compEnvC scope cl C X.env) fp) elt (Tr X.K W0 u))
    (hy : X.N[i]? = some y := by rfl) (hyl : X.env.scope.names.lookup y = some .local := by rfl) (hsw : swapsWith (.ListComp elt [⟨tg, iter, ifs, 0⟩] scope pos) (some (.Name y py)) spos.line X.env = pure true) (hs : ∀ x, foldedSetIterable iter X.env x = pure x := by intro _; rfl) :
    PS X (.Assign [.Name y py] (.ListComp elt [⟨tg, iter, ifs, 0⟩] scope pos) spos) (TrS X.K W (wSetF i (wLc wi g t u (own.map (·.2))))) := ps_imp (ps_setLc hc hN hy hyl hsw hi ok hg ht he hs) fun Dn σ H h => by
  obtain ⟨b, δ, F, E, wf, r, q, k1, k2, k3, k4, k5⟩ := h
  refine tr_lc hts ⟨b, δ, F, _, _, wf, r, q, fun d δ1 q1 p F1 H1 wf1 s1 r1 n => ?_, k5_of k5⟩
  obtain ⟨F2, a1, a2, a3, a4⟩ := freeze wf1 r1 n
  exact k1 _ q1 _ F2 H1 a1 (s1.trans a2) (a3.setV a4)
end
end L3

set_option Elab.async false
set_option linter.all false
set_option maxRecDepth 100000
set_option maxHeartbeats 1000000
namespace L3
open PySem L2
section
variable {X : Cx} {K : PySem.W.Frag} {W : WX} {e a b c o : Expr} {es : List Expr} {t : TE} {pos : Pos}
variable {k n : Nat} {f C g pp : Addr} {fd : FuncData} {ps ks : List Str} {ff : Fn} {dvs : List V} {dvl : List Value} {dd : List D} {x m : Str} {p apos kpos : Pos} {kws : List Keyword}

/-! ### keywords alone -/
abbrev Perm := {α : Type} → List α → List α
theorem pk_imp {t t' : TA} (h : PK X kws t) (i : ∀ σ H Q, t' σ H Q → t σ H Q) : PK X kws t' := ⟨fun pos pins s σ H Q I q => h.run pos pins s σ H Q I (i _ _ _ q)⟩
theorem xk_nil : PK X [] (TrA K W wNil) := pk_imp pk_nil fun σ H Q h => by
  obtain ⟨b, δ, F, Po, Px, wf, r, q, k, kx⟩ := h
  exact k _ _ q _ F H wf (Same.refl _) r .nil
theorem xk_cons {u : Wt} {w : Wa} {nm : Option Str} (h : PE X e (Tr K W u)) (h' : PK X kws (TrA K W w)) : PK X (⟨nm, e, kpos⟩ :: kws) (TrA K W (wCons u w)) := pk_imp (pk_cons h h') fun σ H Q h => by
  obtain ⟨b, δ, F, Po, Px, wf, r, q, k, kx⟩ := h
  refine ⟨b, δ, F, _, _, wf, r, q, fun d δ1 q1 x F1 H1 wf1 s1 r1 rx => ?_, kx⟩
  exact ⟨b, δ1, F1, _, _, wf1, r1, q1, fun as δ2 q2 vs F2 H2 wf2 s2 r2 ra => k _ δ2 q2 _ F2 H2 wf2 (s1.trans s2) r2 (.cons (rx.mono s2) ra), fun er δ' hx => Xp.back s1 (kx er δ' hx)⟩
/-- what the written part says of a def called by keywords: n values first, then h of the keywords' values -/
abbrev KbP (K : PySem.W.Frag) (fd : FuncData) (ps : List Str) (n : Nat) (ks : List Str) (h : Perm) : Prop := KBn K fd ps n ks (fun us ws => us ++ h ws) (fun vs zs => vs ++ h zs)
structure PermOk (m : Nat) (h : Perm) : Prop where
  vals : ∀ {vs : List V} {us : List Value}, Vals vs us → Vals (h vs) (h us)
  reps : ∀ {K : PySem.W.Frag} {F : Hp} {ds : List D} {vs : List V}, Reps K F ds vs → Reps K F (h ds) (h vs)
def pId : Perm := fun l => l
def pSwap : Perm := fun l => match l with
  | [a, b] => [b, a]
  | l => l
theorem pId_ok {m : Nat} : PermOk m pId := ⟨fun h => h, fun h => h⟩
theorem pSwap_ok {m : Nat} : PermOk m pSwap := ⟨fun {vs us} h => by
    cases h with
    | nil => exact .nil
    | cons r1 h1 =>
      cases h1 with
      | nil => exact .cons r1 .nil
      | cons r2 h2 =>
        cases h2 with
        | nil => exact .cons r2 (.cons r1 .nil)
        | cons r3 h3 => exact .cons r1 (.cons r2 (.cons r3 h3)), fun {K F ds vs} h => by
    match ds, h with
    | [], h => rw [show vs = [] from h]; rfl
    | [d], h => obtain ⟨v, rfl, r⟩ := (by
          obtain ⟨v, us, rfl, r1, r2⟩ := h
          rw [show us = [] from r2]
          exact ⟨v, rfl, r1⟩ : ∃ v, vs = [v] ∧ Rep K F d v)
                exact Reps.cons r rfl
    | [d, d'], h =>
      obtain ⟨v, us, rfl, r1, w, us', rfl, r2, r3⟩ := h
      rw [show us' = [] from r3]
      exact Reps.cons r2 (Reps.cons r1 rfl)
    | d :: d' :: d'' :: ds, h =>
      obtain ⟨v, us, rfl, r1, w, us', rfl, r2, z, us'', rfl, r3, r4⟩ := h
      exact ⟨v, _, rfl, r1, w, _, rfl, r2, z, _, rfl, r3, r4⟩⟩
theorem kb_fun {h : Perm} {m : Nat} {nm qual : Str} {st : Stmt} (F : L2.Fun K nm qual st f fd) (ok : PermOk m h)
    (hb : ∀ (kV doc pm : Value) (an : Option Addr) (cdv ct : Value) (us ws : List Value), us.length = n → ws.length = ks.length → bindArgs (PySem.W.fnOf nm qual (defArgs st) (defBody st) (defScope st) .none kV doc pm an cdv ct) ⟨us, ks.zip ws⟩ = pure (ps.zip (us ++ h ws))) : KbP K fd ps n ks h := by
  obtain ⟨oc, od, kV, doc, pm, an, cdv, ct, osl, rfl, lk, hcd⟩ := F.ex
  exact ⟨fun s us ws X l1 l2 => .of_eq (hb kV doc pm an cdv ct us ws l1 l2), fun r1 r2 => r1.append (ok.vals r2)⟩
theorem kb_funD {h : Perm} {m : Nat} {nm qual : Str} {st : Stmt} {dk : List (Str × V)} (F : FunD K nm qual (defArgs st) (defBody st) (defScope st) dvs dk f fd) (hd : dvs ≠ []) (ok : PermOk m h)
    (hb : ∀ (T : Addr) (kV doc pm : Value) (an : Option Addr) (cdv ct : Value) (us its ws : List Value), us.length = n → its.length = dvs.length → ws.length = ks.length →
      ∃ k, bindArgs (PySem.W.fnOf nm qual (defArgs st) (defBody st) (defScope st) (.ref T) kV doc pm an cdv ct) ⟨us, ks.zip ws⟩ = seqItems? (.ref T) >>= k ∧ k (some its.toArray) = pure (ps.zip (us ++ h ws))) : KbP K fd ps n ks h := by
  obtain ⟨oc, od, dV, kV, doc, pm, an, cdv, ct, osl, rfl, lk, hcd, hD, hK⟩ := F.ex
  rcases hD with ⟨e, _⟩ | ⟨_, T, o, its, m, rfl, lT, oT, rT⟩
  · exact absurd e hd
  · refine ⟨fun s us ws X l1 l2 => ?_, fun r1 r2 => r1.append (ok.vals r2)⟩
    obtain ⟨k, e1, e2⟩ := hb T kV doc pm an cdv ct us its ws l1 rT.length.symm l2
    refine BindsTo.of_looks fun M => ?_
    rw [e1]
    exact looks_items X lT oT (.of_pure e2)
def wCallW (f : Fn) (h : Perm) (m : Nat) (u : Wa) : Wt := fun δ Q Y => u δ (fun as δ1 => ∃ ds, trees as = some ds ∧ ds.length = m ∧ f ((h ds).map S.v) (fun r _ => Q (rvD r) δ1) (fun _ _ => False)) Y
/-- the promise of a call that raises nothing -/
theorem sp_call0 {F H : Hp} {f : Fn} {ds : List D} {vs : List V} {R : Rv → List S → Prop} {n : Nat} {Q : VK} (sF : Same F H) (rr : Reps K F ds vs) (hn : vs.length = n)
    (q : f (ds.map S.v) R (fun _ _ => False)) (k : ∀ rv fin, R rv fin → ∀ v F' H', Wf ⟨F, H, fun _ => none⟩ F' H' → RtOk K ⟨F, H, fun _ => none⟩ F' H' rv v → Q v H') : spF K n f vs H Q E0 :=
  ⟨F, fun _ => none, _, R, _, hn, sF, (fun _ _ z => by cases z), rs_args rr, q, fun rv fin h v F' H' w _ ok => k rv fin h v F' H' w ok, fun er fin h => h.elim⟩
theorem tr_callW {f : Fn} {h : Perm} {m n : Nat} {u : Wa} {σ : L2.St} {H : Hp} {Q : VK} (ok : PermOk m h) (hf : ∀ as R Y, f as R Y → as.length = n) (hh : Tr K W (wCallW f h m u) σ H Q) : tCallW (spF K n f) (fun zs => [] ++ h zs) m E0 (TrA K W u) σ H Q := by
  obtain ⟨b, δ, F, Po, Px, wf, r, q, k, kx⟩ := hh
  refine ⟨b, δ, F, _, _, wf, r, q, fun as δ1 q1 vs F1 H1 wf1 s1 r1 ra => ?_, kx⟩
  obtain ⟨ds, hds, hm, q2⟩ := q1
  have r0 := reps_of ra hds
  have rr := ok.reps r0
  have hn : (h vs).length = n := by
    have := hf _ _ _ q2
    rw [List.length_map] at this
    rw [rr.length, this]
  refine ⟨by rw [r0.length, hm], ?_⟩
  show spF K n f (h vs) H1 Q E0
  refine sp_call0 wf1.fh rr hn q2 (fun rv fin q3 v F' H' w ok => ?_)
  obtain ⟨F2, a1, a2, a3, a4, _⟩ := rv_tree wf1 r1 w (Same.refl _) (fun i x z => by cases z) ok
  exact k _ _ q3 v F2 H' a1 (s1.trans a2) a3 a4
theorem x_callW {h : Perm} {u : Wa} (F : FnG X.prog X.w X.K X.mg X.base (L2.CX X.prog X.w) k f fd ps (spF X.K n ff)) (hr : RmG k X.A) (hm : X.mg x = some (.ref f)) (hk : PySem.W.keepIn X.K (.ref f) = true) (hb : KbP X.K fd ps 0 ks h) (ok : PermOk ks.length h)
    (hf : ∀ as R Y, ff as R Y → as.length = n) (hkw : PK X kws (TrA X.K W u)) (hg : Gl X x := by rfl)
    (hall : (backToKw pos (keywordEach kws X.env)).all (·.1.isSome) = true := by rfl) (hks : (backToKw pos (keywordEach kws X.env)).filterMap (·.1) = ks := by rfl) (hdb : (x == ("__debug__" : Str)) = false := by decide)
    (hpl : ((backTo pos (starEach [] X.env)).any (·.1) || (backToKw pos (keywordEach kws X.env)).any (·.1.isNone)) = false := by rfl) : PE X (.Call (.Name x p) [] kws pos) (Tr X.K W (wCallW ff h ks.length u)) :=
  pe_imp (pe_callW F hr hg hm hk hb passL hkw hall hks hdb hpl) fun _ _ _ => tr_callW ok hf
/-- C(k = e, ..) -/
def wMakeW (C : Addr) (f : Fn) (h : Perm) (m : Nat) (u : Wa) : Wt := fun δ Q Y => u δ (fun as δ1 => ∃ ds, trees as = some ds ∧ ds.length = m ∧ f (.oo true C [] [] :: (h ds).map S.v) (fun r fin => ∃ ns xs, fin[0]? = some (.oo true C ns xs) ∧ Q (.obj C ns xs) δ1) (fun _ _ => False)) Y
theorem tr_makeW {f : Fn} {h : Perm} {m n : Nat} {u : Wa} {σ : L2.St} {H : Hp} {Q : VK} (ok : PermOk m h) (hf : ∀ as R Y, f as R Y → as.length = n) (hn' : ∀ as R Y, f as R Y → f as (fun r fin => r = .d .non ∧ R r fin) Y) (hh : Tr K W (wMakeW C f h m u) σ H Q) :
    tMakeW C (spF K n f) (fun vs zs => vs ++ h zs) m E0 (TrA K W u) σ H Q := by
  obtain ⟨b, δ, F, Po, Px, wf, r, q, k, kx⟩ := hh
  refine ⟨b, δ, F, _, _, wf, r, q, fun as δ1 q1 vs F1 H1 wf1 s1 r1 ra => ?_, kx⟩
  obtain ⟨ds, hds, hm, q2⟩ := q1
  have r0 := reps_of ra hds
  refine ⟨by rw [r0.length, hm], ?_⟩
  intro x dx nx ndx nex
  exact make_core wf1 r1 (ok.reps r0) hf hn' q2 (fun d δ' q v F' H' w s => k d δ' q v F' H' w (s1.trans s)) (fun er fin q => q.elim) x dx nx ndx nex
theorem x_makeW {h : Perm} {u : Wa} (M : Mk X.K C f) (F : FnG X.prog X.w X.K X.mg X.base (L2.CX X.prog X.w) k f fd ps (spF X.K n ff)) (hr : RmG (k + 1) X.A) (hm : X.mg x = some (.ref C)) (hb : KbP X.K fd ps 1 ks h) (ok : PermOk ks.length h)
    (hf : ∀ as R Y, ff as R Y → as.length = n) (hn' : ∀ as R Y, ff as R Y → ff as (fun r fin => r = .d .non ∧ R r fin) Y) (hkw : PK X kws (TrA X.K W u)) (hg : Gl X x := by rfl)
    (hall : (backToKw pos (keywordEach kws X.env)).all (·.1.isSome) = true := by rfl) (hks : (backToKw pos (keywordEach kws X.env)).filterMap (·.1) = ks := by rfl) (hdb : (x == ("__debug__" : Str)) = false := by decide)
    (hpl : ((backTo pos (starEach [] X.env)).any (·.1) || (backToKw pos (keywordEach kws X.env)).any (·.1.isNone)) = false := by rfl) : PE X (.Call (.Name x p) [] kws pos) (Tr X.K W (wMakeW C ff h ks.length u)) :=
  pe_imp (pe_makeW M F hr hg hm hb passL hkw hall hks hdb hpl) fun _ _ _ => tr_makeW ok hf hn'

/-! ### o.m(k = e, ..) -/
def tMethW (C : Addr) (m : Str) (sp : Sp) (gV : List V → List V → List V) (mm : Nat) (E : XK) (ta : TE) (tk : TA) : TE := fun σ H Q => ta σ H fun x H1 => ∃ a dx fs, x = .ref a ∧ H1 a = some (.ins C dx fs) ∧ fs.lookup m = none ∧
  tk σ H1 fun zs H2 => zs.length = mm ∧ sp (gV [x] zs) H2 Q E
theorem pe_methW {E1 : XK} {ta : TE} {tk : TA} {sp : Sp} {CX : CXT} {gg : List Value → List Value → List Value} {gV : List V → List V → List V} {pl : Sem Bool} (he : PE X o ta) (c : Cls X.K C) (hm : Meth X.K C m f) (F : FnG X.prog X.w X.K X.mg X.base CX k f fd ps sp) (hr : RmG k X.A)
    (hb : KBn X.K fd ps 1 ks gg gV) (hx : Passes CX X E1) (hkw : PK X kws tk)
    (hall : (backToKw pos (keywordEach kws X.env)).all (·.1.isSome) = true := by rfl) (hks : (backToKw pos (keywordEach kws X.env)).filterMap (·.1) = ks := by rfl)
    (hpl : ((backTo pos (starEach [] X.env)).any (·.1) || (backToKw pos (keywordEach kws X.env)).any (·.1.isNone)) = false := by rfl)
    (ht : eval (.Call (.Attribute o m apos) [] kws pos) X.env = (do
      let ov ← eval o X.env
      standAt apos.atName
      let (f, first) ← holding [ov] (getMethod ov m pl)
      callWith pos f first (backTo pos (starEach [] X.env)) (backToKw pos (keywordEach kws X.env))) := by rfl) : PE X (.Call (.Attribute o m apos) [] kws pos) (tMethW C m sp gV ks.length E1 ta tk) := ⟨fun pins s σ H Q I h => by
  refine PySem.W.methodCall_KW (pl := pl) (thn (he.run pins s σ H _ I h) ?_) ht
  rintro u s1 ⟨_, H1, I1, rx, a, dx, fs, rfl, ea, l, q⟩
  cases (show u = Value.ref a from rx)
  refine getmeth_ok I1 ea c hm l (PySem.W.callWith_KW0 (first := [.ref a]) (h₀ := X.base) I1.ok.mod.kin hm.kp hall ?_ hpl)
  refine thn (hkw.run pos pins s1 σ H1 _ I1 q) ?_
  rintro ws s2 ⟨zs, H2, I2, rz, l2, q2⟩
  refine ⟨I2.kIn, ?_⟩
  rw [hks]
  have r2 := hb.rel (.cons rfl .nil : Vals [V.ref a] [Value.ref a]) rz
  refine wpAny_call (codeAny_mono (F.run X.A X.stack s2 H2 ⟨[.ref a], ks.zip ws⟩ (gg [.ref a] ws) (gV [.ref a] zs) Q E1 hr I2.env0 (hb.to s2 [.ref a] ws I2.kIn rfl (rz.length.symm.trans l2)) r2 q2) ?_)
  rintro (e | fl) s' hq
  · exact hx pins σ H2 s2 e s' I2 hq
  · cases fl <;> first | exact I2.after hq | exact False.elim hq⟩
def wMethW (C : Addr) (m : Str) (f : Fn) (h : Perm) (mm : Nat) (w : Wt) (u : Wa) : Wt := fun δ Q Y => w δ (fun d δ1 => ∃ ns xs, d = .obj C ns xs ∧ m ∉ ns ∧ u δ1 (fun as δ2 => ∃ ds, trees as = some ds ∧ ds.length = mm ∧ f ((d :: h ds).map S.v) (fun r _ => Q (rvD r) δ2) (fun _ _ => False)) Y) Y
theorem tr_methW {f : Fn} {h : Perm} {mm n : Nat} {w : Wt} {u : Wa} {σ : L2.St} {H : Hp} {Q : VK} (ok : PermOk mm h) (hf : ∀ as R Y, f as R Y → as.length = n) (hh : Tr K W (wMethW C m f h mm w u) σ H Q) :
    tMethW C m (spF K n f) (fun vs zs => vs ++ h zs) mm E0 (Tr K W w) (TrA K W u) σ H Q := by
  obtain ⟨b, δ, F, Po, Px, wf, r, q, k, kx⟩ := hh
  refine ⟨b, δ, F, _, _, wf, r, q, fun d δ1 q1 x F1 H1 wf1 s1 r1 rx => ?_, kx⟩
  obtain ⟨ns, xs, rfl, hm, q1⟩ := q1
  obtain ⟨a, dx, us, rfl, ha, hl, ru⟩ := id rx
  refine ⟨a, dx, _, rfl, wf1.fh _ _ ha, lookup_zip_none hm, ?_⟩
  refine ⟨b, δ1, F1, _, _, wf1, r1, q1, fun as δ2 q2 vs F2 H2 wf2 s2 r2 ra => ?_, fun er δ' hx => Xp.back s1 (kx er δ' hx)⟩
  obtain ⟨ds, hds, hl2, q3⟩ := q2
  have r0 := reps_of ra hds
  have rr : Reps K F2 (.obj C ns xs :: h ds) (V.ref a :: h vs) := Reps.cons (rx.mono s2) (ok.reps r0)
  have hn : (V.ref a :: h vs).length = n := by
    have := hf _ _ _ q3
    rw [List.length_map] at this
    rw [rr.length, this]
  refine ⟨by rw [r0.length, hl2], ?_⟩
  show spF K n f (V.ref a :: h vs) H2 Q E0
  refine sp_call0 wf2.fh rr hn q3 (fun rv fin q3 v F' H' w ok => ?_)
  obtain ⟨F3, a1, a2, a3, a4, _⟩ := rv_tree wf2 r2 w (Same.refl _) (fun i x z => by cases z) ok
  exact k _ _ q3 v F3 H' a1 ((s1.trans s2).trans a2) a3 a4
theorem x_methW {h : Perm} {w : Wt} {u : Wa} {pl : Sem Bool} (ho : PE X o (Tr X.K W w)) (c : Cls X.K C) (hm : Meth X.K C m f) (F : FnG X.prog X.w X.K X.mg X.base (L2.CX X.prog X.w) k f fd ps (spF X.K n ff)) (hr : RmG k X.A) (hb : KbP X.K fd ps 1 ks h) (ok : PermOk ks.length h)
    (hf : ∀ as R Y, ff as R Y → as.length = n) (hkw : PK X kws (TrA X.K W u))
    (hall : (backToKw pos (keywordEach kws X.env)).all (·.1.isSome) = true := by rfl) (hks : (backToKw pos (keywordEach kws X.env)).filterMap (·.1) = ks := by rfl)
    (hpl : ((backTo pos (starEach [] X.env)).any (·.1) || (backToKw pos (keywordEach kws X.env)).any (·.1.isNone)) = false := by rfl)
    (ht : eval (.Call (.Attribute o m apos) [] kws pos) X.env = (do
      let ov ← eval o X.env
      standAt apos.atName
      let (f, first) ← holding [ov] (getMethod ov m pl)
      callWith pos f first (backTo pos (starEach [] X.env)) (backToKw pos (keywordEach kws X.env))) := by rfl) : PE X (.Call (.Attribute o m apos) [] kws pos) (Tr X.K W (wMethW C m ff h ks.length w u)) :=
  pe_imp (pe_methW ho c hm F hr hb passL hkw hall hks hpl ht) fun _ _ _ => tr_methW ok hf

/-! ### powers, an empty dict, built-in types -/
def CPowB (i j : Int) : Prop := 0 ≤ j ∧ (PySem.Builtin.Int.intBits i : Int) * j ≤ 2 ^ 27
theorem o_pow : OpR X (binaryOp .Pow) (Op2 K (oI CPowB fun i j => .int (i ^ j.toNat))) := fun pins s σ H x y u v Q I rx ry h => by
  obtain ⟨F, d, e, P, sF, r1, r2, ⟨i, j, rfl, rfl, hc, q⟩, kk⟩ := h
  cases (show x = .int i from r1)
  cases (show y = .int j from r2)
  obtain ⟨t, rfl⟩ := (show ∃ t, u = Value.int i t from rx)
  obtain ⟨t', rfl⟩ := (show ∃ t, v = Value.int j t from ry)
  exact PyProof.Rows.pow_int hc.1 hc.2 ⟨.int (i ^ j.toNat), H, I.tok _, ⟨_, rfl⟩, kk _ q _ F H (Ext.refl sF) rfl⟩
theorem x_dict0 : PE X (.Dict [] [] pos) (Tr X.K W (wC (.dk [] []))) := pe_imp pe_dnewK fun σ H Q h => by
  obtain ⟨b, δ, F, Po, Px, wf, r, q, k, kx⟩ := h
  intro p np
  have ex := Ext.new1 (o := .dK []) wf.fh np
  exact k _ δ q _ _ _ (wf.ext ex) ex.ff (r.ext ex) ⟨p, [], rfl, upd_same, rfl, rfl⟩
theorem x_ty {T : String} (hm : X.mg x = none) (hv : bootBuiltins x = some (.type T)) (hg : Gl X x := by rfl) (hn : x ≠ "__name__" := by decide) (hd : (x == ("__debug__" : Str)) = false := by decide) : PE X (.Name x pos) (Tr X.K W (wC (.ty T))) :=
  x_c (v := .ty T) (pe_bltn hg hm hv rfl hn hd) fun _ => rfl
theorem toP_nd : ∀ (d : D) (p : PyData), toP d = some p → p.hasDict = false := by
  intro d
  refine D.rec (motive_1 := fun d => ∀ p, toP d = some p → p.hasDict = false) (motive_2 := fun ds => ∀ ps, toPs ds = some ps → PyData.hasDictAll ps = false) ?_ ?_ ?_ ?_ ?_ ?_ ?_ ?_ ?_ ?_ ?_ ?_ ?_ d
  · intro p h; cases h; rfl
  · intro b p h; cases h; rfl
  · intro b p h; cases h; rfl
  · intro b p h; cases h; rfl
  · intro b p h; cases h
  · intro b p h; cases h
  · intro xs ih p h
    cases e : toPs xs with
    | none => rw [show toP (.tup xs) = (toPs xs).map .tuple from rfl, e] at h; cases h
    | some ps => rw [show toP (.tup xs) = (toPs xs).map .tuple from rfl, e] at h; cases h; exact ih ps e
  · intro xs ih p h
    cases e : toPs xs with
    | none => rw [show toP (.lst xs) = (toPs xs).map .list from rfl, e] at h; cases h
    | some ps => rw [show toP (.lst xs) = (toPs xs).map .list from rfl, e] at h; cases h; exact ih ps e
  · intro c ns xs ih p h; cases h
  · intro ks xs ih p h; cases h
  · intro c p h; cases h
  · intro ps h; cases h; rfl
  · intro x xs i1 i2 ps h
    cases e1 : toP x with
    | none => unfold toPs at h; rw [e1] at h; cases h
    | some q =>
      cases e2 : toPs xs with
      | none => unfold toPs at h; rw [e1, e2] at h; cases h
      | some rs =>
        unfold toPs at h
        rw [e1, e2] at h
        cases h
        show (PyData.hasDict q || PyData.hasDictAll rs) = false
        rw [i1 q e1, i2 rs e2]; rfl
theorem str_of_is {x : Str} {v : Value} (h : Value.isStrOf x v = true) : ∃ t, v = Value.str x t := by
  cases v <;> first | cases h | skip
  rename_i y t
  exact ⟨t, by rw [show y = x from (by simpa [Value.isStrOf] using h)]⟩
theorem one_pair {P : Program} {w : World} {k : Str} {x : Value} {l : List DictEntry} (g : Pairs (mixKind P w) l [(.inr k, x)]) : ∃ e t, l = [e] ∧ e.key = Value.str k t ∧ e.val = x := by
  cases g with
  | cons h1 h2 h3 =>
    cases h3
    obtain ⟨t, ht⟩ := str_of_is h1
    exact ⟨_, t, rfl, ht, h2⟩
/-- the text of a tree -/
def reprD (d : D) : Option Str := match d with
  | .dk [] [] => some (PyData.shown (.dict []))
  | .dk [.inr k] [.int i] => if (PyData.dict [(.str k, .int i)]).showable = true ∧ (PyData.dict [(.str k, .int i)]).depth ≤ 60 ∧ (PyData.dict [(.str k, .int i)]).shown.length ≤ sizeLine then some (PyData.dict [(.str k, .int i)]).shown else none
  | d => match toP d with
    | some p => if p.showable = true ∧ p.depth ≤ 60 ∧ p.shown.length ≤ sizeLine then some p.shown else none
    | none => none
theorem wp_repr {pins : List (Addr × Obj)} {σ : L2.St} {H : Hp} {s : Shared} {u : Value} {p : PyData} {as : List Addr} {Q : VK} (hu : X.A.units + 200 < cLine) (hg : X.A.guards = some []) (I : Inv X pins σ H s) (r : Reads s.heap u p as) (hs : p.showable = true) (hd : p.depth ≤ 60) (hz : p.shown.length ≤ sizeLine)
    (hsm : p.hasDict = true → sysModules ∉ as) (q : Q (.str p.shown) H) : wpAny (model X.prog X.w) X.A (call (.builtin "repr") [u]) (EP X pins σ Q) X.xe s := by
  have fin : ∀ (x : Str) t h', (∀ b o, s.heap.get? b = some o → h'.get? b = some o) → x = p.shown → EP X pins σ Q (.str x t) { s with heap := h', toks := s.toks + 1 } := fun x t h' k e => ⟨.str x, H, I.kept k, ⟨_, rfl⟩, by rw [e]; exact q⟩
  cases r with
  | none => exact PySem.P.repr_of_none (fin _ _ s.heap (fun _ _ e => e) rfl)
  | bool b => exact PySem.P.repr_of_bool (fin _ _ s.heap (fun _ _ e => e) (by cases b <;> rfl))
  | int i t => exact PySem.P.repr_of_int (of_decide_eq_true hs) (fin _ _ s.heap (fun _ _ e => e) rfl)
  | str x t => exact PySem.P.repr_of_str (fin _ _ s.heap (fun _ _ e => e) rfl) (hsz := hz)
  | list a1 a2 a3 a4 => exact repr_of_reads' (Reads.list a1 a2 a3 a4) hs hsm hg (by omega) (fun _ _ e => e) (fun h' u tk hk => ⟨.str _, H, I.kept hk, ⟨_, rfl⟩, q⟩) hz
  | tuple a1 a2 a3 a4 => exact repr_of_reads' (Reads.tuple a1 a2 a3 a4) hs hsm hg (by omega) (fun _ _ e => e) (fun h' u tk hk => ⟨.str _, H, I.kept hk, ⟨_, rfl⟩, q⟩) hz
  | dict a1 a2 a3 a4 a5 => exact repr_of_reads' (Reads.dict a1 a2 a3 a4 a5) hs hsm hg (by omega) (fun _ _ e => e) (fun h' u tk hk => ⟨.str _, H, I.kept hk, ⟨_, rfl⟩, q⟩) hz
theorem b_repr (hu : X.A.units + 200 < cLine) (hg : X.A.guards = some []) : CallR X (.builtin "repr") (OpC X.K fun ds P => ∃ d x, ds = [d] ∧ reprD d = some x ∧ P (.str x)) := fun pins s σ H vs us Q I rv h => by
  obtain ⟨F, ds, P, sF, rr, ⟨d, x, rfl, hx, q⟩, kk⟩ := h
  obtain ⟨v, rfl, r1⟩ := reps1 rr
  cases rv with
  | cons ru rn =>
    cases rn
    have qq := kk _ q (.str x) F H (Ext.refl sF) rfl
    have gen : ∀ p, toP d = some p → (if p.showable = true ∧ p.depth ≤ 60 ∧ p.shown.length ≤ sizeLine then some p.shown else none) = some x → wpAny (model X.prog X.w) X.A (call (.builtin "repr") [_]) (EP X pins σ Q) X.xe s := fun p hp h2 => by
      obtain ⟨as, r⟩ := Dp.reads I p v _ (dp_of sF r1 hp) ru
      split at h2
      · rename_i c
        cases h2
        exact wp_repr hu hg I r c.1 c.2.1 c.2.2 (fun z => by rw [toP_nd _ _ hp] at z; cases z) qq
      · cases h2
    unfold reprD at hx
    split at hx
    · cases hx
      obtain ⟨a, vs, rfl, h1, h2, h3⟩ := r1
      have ru' : _ = Value.ref a := ru
      subst ru'
      have h3' : vs = [] := h3
      subst h3'
      obtain ⟨_, hsm, vs', kv, o, es, ep, g1, g2, g3, g4⟩ := dk_of (P := X.prog) (w := X.w) I.hok (sF _ _ h1)
      have hv : vs' = [] := by cases kv; rfl
      subst hv
      obtain ⟨_, g5, _⟩ := g4
      have he : es.toList = [] := by
        generalize es.toList = l at g5
        cases g5
        rfl
      have rd : Reads s.heap (.ref a) (.dict []) (a :: [] ++ []) := Reads.dict (es := es) (n := ep) g1 g2.1 g3 (by rw [he]; exact .nil) (by rw [he]; exact .nil)
      exact wp_repr hu hg I rd rfl (by decide) (by decide +kernel) (fun _ z => by
        have z' : sysModules ∈ [a] := z
        have e : sysModules = a := List.mem_singleton.mp z'
        rw [← e] at hsm
        exact absurd hsm (by decide)) qq
    · rename_i k i
      obtain ⟨a, vs, rfl, h1, h2, h3⟩ := r1
      cases (show _ = Value.ref a from ru)
      obtain ⟨w1, r, rfl, hw, hr⟩ := h3
      cases (show w1 = V.int i from hw)
      cases (show r = [] from hr)
      obtain ⟨_, hsm, vs', kv, o, es, ep, g1, g2, g3, g4⟩ := dk_of (P := X.prog) (w := X.w) I.hok (sF _ _ h1)
      obtain ⟨_, g5, _⟩ := g4
      cases kv with
      | @cons _ q0 _ qs hq tq =>
        cases tq
        obtain ⟨q1, q2⟩ := q0
        obtain ⟨e1, t1, e2⟩ := hq
        cases (show Sum.inr k = q1 from e1)
        cases (show q2 = Value.int i t1 from e2)
        obtain ⟨e, t, he, hk, hv⟩ := one_pair g5
        have rd : Reads s.heap (.ref a) (.dict [(.str k, .int i)]) (a :: ([] ++ []) ++ ([] ++ [])) := Reads.dict (es := es) (n := ep) g1 g2.1 g3 (by rw [he]; show ReadsAll _ [e.key] [PyData.str k] _; rw [hk]; exact .cons (.str k t) .nil) (by rw [he]; show ReadsAll _ [e.val] [PyData.int i] _; rw [hv]; exact .cons (.int i t1) .nil)
        split at hx
        · rename_i c
          cases hx
          exact wp_repr hu hg I rd c.1 c.2.1 c.2.2 (fun _ z => by
            have z' : sysModules ∈ [a] := z
            have e : sysModules = a := List.mem_singleton.mp z'
            rw [← e] at hsm
            exact absurd hsm (by decide)) qq
        · cases hx
    · split at hx
      · rename_i p hp
        exact gen p hp hx
      · cases hx
end
end L3

set_option Elab.async false
set_option linter.all false
set_option maxRecDepth 100000
set_option maxHeartbeats 1000000
namespace L3
open PySem L2
section
variable {X : Cx} {K : PySem.W.Frag} {W : WX} {e a b c o : Expr} {es : List Expr} {t : TE} {pos : Pos}
variable {k n : Nat} {f C g pp : Addr} {fd : FuncData} {ps ks : List Str} {ff : Fn} {dvs : List V} {dvl : List Value} {dd : List D} {x m : Str} {p apos kpos : Pos} {kws : List Keyword}
/-- // by any number but 0 -/
def CDivF (_ j : Int) : Prop := j ≠ 0 ∧ j.natAbs.log2 < 9000
theorem o_fdivF : OpR X (binaryOp .FloorDiv) (Op2 K (oI CDivF fun i j => .int (i.fdiv j))) := fun pins s σ H x y u v Q I rx ry h => by
  obtain ⟨F, d, e, P, sF, r1, r2, ⟨i, j, rfl, rfl, hc, q⟩, kk⟩ := h
  cases (show x = .int i from r1)
  cases (show y = .int j from r2)
  obtain ⟨t, rfl⟩ := (show ∃ t, u = Value.int i t from rx)
  obtain ⟨t', rfl⟩ := (show ∃ t, v = Value.int j t from ry)
  exact PyProof.Rows.floordiv_int hc.1 ⟨.int (i.fdiv j), H, I.tok _, ⟨_, rfl⟩, kk _ q _ F H (Ext.refl sF) rfl⟩ (.inl (PyProof.noPylong_of_log2 hc.2))
/-- the call of an operator's def of one tree -/
theorem run_own1 {pins : List (Addr × Obj)} {σ : L2.St} {H F : Hp} {s : Shared} {d1 : D} {x : V} {u : Value} {P : D → Prop} {QQ : Value → Shared → Prop} {A : Around} {E : Value → Shared → Prop} (Fk : FnG X.prog X.w X.K X.mg X.base (L2.CX X.prog X.w) k f fd ps (spF X.K 1 ff)) (hr : RmG k A) (hA : A.frames = X.A.frames) (hb : Binds X.K fd ps [])
    (I : Inv X pins σ H s) (sF : Same F H) (r1 : Rep X.K F d1 x) (rx : RelV x u) (q : ff [.v d1] (fun r _ => P (rvD r)) (fun _ _ => False))
    (kk : ∀ z, P z → ∀ w (u : Value) F' H' s', Inv X pins σ H' s' → RelV w u → Ext F H F' H' → Rep X.K F' z w → QQ u s') : wpAny (model X.prog X.w) A (call (.ref f) [u]) QQ E s := by
  have rr : Reps X.K F [d1] [x] := Reps.cons r1 rfl
  have hsp : spF X.K 1 ff [x] H (fun w H' => ∃ z F', P z ∧ Ext F H F' H' ∧ Rep X.K F' z w) E0 :=
    ⟨F, fun _ => none, _, _, _, rfl, sF, (fun _ _ z => by cases z), rs_args rr, q, fun rv fin h w F' H' wf _ ok => by
      have ex := ext_of_call wf (Same.refl _) fun i x z => by cases z
      cases rv with
      | d d => exact ⟨d, F', h, ex, ok⟩
      | l xs =>
        obtain ⟨p, rfl, ⟨nF, vs, hp, rr'⟩, h0⟩ := ok
        have s2 : Same F' (upd F' p (.lst vs)) := fun a o e => by rw [upd_ne (ne_of_none e nF)]; exact e
        refine ⟨.lst xs, upd F' p (.lst vs), h, ⟨ex.ff.trans s2, fun a o e => ?_, ex.hh, fun a o e => ?_⟩, p, vs, rfl, .inl (.inl upd_same), rr'.mono s2⟩
        · by_cases z : a = p
          · subst z; rw [upd_same] at e; cases e; exact hp
          · rw [upd_ne z] at e; exact ex.fh a o e
        · by_cases z : a = p
          · subst z; exact .inr h0
          · rw [upd_ne z] at e; exact ex.new a o e, fun er fin z => z.elim⟩
  have hlen := Fk.len _ _ _ _ hsp
  have b := hb s [u] I.kIn (by simpa using hlen)
  rw [List.append_nil] at b
  refine wpAny_call (codeAny_mono (Fk.run A X.stack s H ⟨[u], []⟩ [u] [x] _ E0 hr (Env0.units I.env0 hA) b (.cons rx .nil) hsp) fun r s' hq => ?_)
  cases r with
  | error e =>
    have z : L2.CX X.prog X.w X.stack H s E0 e s' := hq
    obtain ⟨_, _, _, _, _, _, _, _, _, _, _, _, z⟩ := z
    exact z.elim
  | ok fl =>
    cases fl with
    | ret w =>
      obtain ⟨z, H', I', rz, y, F', hP, ex, rep⟩ := I.after hq
      exact kk y hP z w F' H' s' I' rz ex rep
    | next => exact False.elim hq
    | brk => exact False.elim hq
    | cont => exact False.elim hq
/-- -x of an own class -/
def oOwn1 (C : Addr) (f : Fn) : O1 := fun d P => (∃ ns xs, d = .obj C ns xs) ∧ f [.v d] (fun r _ => P (rvD r)) (fun _ _ => False)
theorem o_ownNeg (O : CmpIn X.K C f "__neg__") (Fk : FnG X.prog X.w X.K X.mg X.base (L2.CX X.prog X.w) k f fd ps (spF X.K 1 ff)) (hr : RmG k X.A) (hb : Binds X.K fd ps []) : UnR X (unaryOp .USub) (Op1 X.K (oOwn1 C ff)) := by
  intro pins s σ H x u Q I rx h
  obtain ⟨F, d, P, sF, r1, ⟨⟨ns, xs, rfl⟩, q⟩, kk⟩ := h
  obtain ⟨a, dx, vs, rfl, ha, hlv, rr⟩ := id r1
  cases (show u = Value.ref a from rx)
  obtain ⟨mA, J, _⟩ := ins_get I.hok (sF _ _ ha)
  obtain ⟨od, J, _⟩ := J.look
  have go := run_own1 (A := X.A) (E := X.xe) (QQ := EP X pins σ Q) Fk hr rfl hb I sF r1 (u := .ref a) rfl q fun z hz w u F' H' s' I' rw' ex rep => ⟨w, H', I', rw', kk z hz w F' H' ex rep⟩
  unfold unaryOp
  refine wpAny_holding ?_
  show wpAny _ _ (if (UnaryOp.USub == UnaryOp.Not) = true then _ else _) _ _ s
  rw [if_neg (by decide)]
  refine wpAny_bind (PySem.W.special_fn I.kIn J O.at_ (beq_iff_eq.mp O.fn) (wpAny_mono go (fun v s' z => ?_) fun _ _ e => e))
  exact wpAny_pure z
end
end L3

set_option Elab.async false
set_option linter.all false
set_option maxRecDepth 100000
set_option maxHeartbeats 1000000
namespace L3
open PySem L2
section
variable {X : Cx} {K : PySem.W.Frag} {W : WX} {e a b c o : Expr} {es : List Expr} {t : TE} {pos : Pos}
/-! ### what is never reached -/
def wNo : Wt := fun _ _ _ => False
def wNoT : Wb := fun _ _ _ => False
theorem x_off : PE X e (Tr K W wNo) := ⟨fun pins s σ H Q I h => by
  obtain ⟨b, δ, F, Po, Px, wf, r, q, _⟩ := h
  exact q.elim⟩
theorem x_offT : PT X e (TrT K W wNoT) := ⟨fun pins s σ H Q I h => by
  obtain ⟨b, δ, F, Po, Px, wf, r, q, _⟩ := h
  exact q.elim⟩
theorem x_gl {x : Str} {p : Addr} (hm : X.mg x = some (.ref p)) (hg : Gl X x := by rfl) (hdb : (x == ("__debug__" : Str)) = false := by decide) : PE X (.Name x pos) (Tr K W (wC (.adr p))) := x_glob hg hm hdb
/-! ### a comparison as a test -/
def wTst (w : Wt) : Wb := fun δ Q Y => w δ (fun d δ1 => ∃ k, d = .bl k ∧ Q k δ1) Y
theorem x_tst {r : O2} {u w : Wt} {op : CmpOp} (ho : OpR X (compareOp op) (Op2 K r)) (ha : PE X a (Tr K W u)) (hb : PE X b (Tr K W w)) (hm : behindInMarks op b = false) : PT X (.Compare a [op] [b] pos) (TrT K W (wTst (wOp r u w))) :=
  pt_imp (pt_cmpR ho ha hb hm) fun σ H Q h => by
    refine tr_op (K := K) (W := W) (Q := fun x H' => ∃ k, x = .bl k ∧ Q k H') ?_
    obtain ⟨b, δ, F, Po, Px, wf, r, q, k, kx⟩ := h
    refine ⟨b, δ, F, _, _, wf, r, q, fun d δ1 q1 x F1 H1 wf1 s1 r1 rx => ?_, kx⟩
    obtain ⟨c, rfl, q2⟩ := q1
    exact ⟨c, rx, k c δ1 q2 F1 H1 wf1 s1 r1⟩
/-! ### the same where an exception is handled -/
theorem o_eqU (hu : X.A.units + 64 < cLine) : OpR X (compareOp .Eq) (Op2 X.K oEqD) := op_of (op_eqD hu) fun x y H Q h => by
  obtain ⟨F, d, e, P, sF, r1, r2, ⟨p, q, h1, h2, s1, s2, q1⟩, kk⟩ := h
  exact ⟨p, q, dp_of sF r1 h1, dp_of sF r2 h2, s1, s2, kk _ q1 _ F H (Ext.refl sF) rfl⟩
theorem o_neU (hu : X.A.units + 64 < cLine) : OpR X (compareOp .NotEq) (Op2 X.K oNeD) := op_of (op_neD hu) fun x y H Q h => by
  obtain ⟨F, d, e, P, sF, r1, r2, ⟨p, q, h1, h2, s1, s2, q1⟩, kk⟩ := h
  exact ⟨p, q, dp_of sF r1 h1, dp_of sF r2 h2, s1, s2, kk _ q1 _ F H (Ext.refl sF) rfl⟩
theorem un_of {A : Around} {k : Nat} (hr : RmG k A) : A.units + 200 < cLine := by have := hr.r.un; omega
theorem blk_of {X : Cx} {N : List Str} {sc scope : Scope} {own : List (Str × Nat)} (hN : X.N = N) (hs : X.env.scope = sc) (h : BlkOk N sc scope own) : BlkOk X.N X.env.scope scope own := by
  rw [hN, hs]; exact h
/-! ### an own __init__ -/
def fnInit (n m : Nat) (w : Ws) : Fn := fun as R Y => fnOf n m w as (fun r δ => r = .d .non ∧ R r δ) Y
theorem _root_.L2.FnG.weak {P : Program} {w : World} {mg : Str → Option Value} {base : Heap} {CX : CXT} {k : Nat} {f : Addr} {fd : FuncData} {ps : List Str} {sp sp' : Sp} (F : FnG P w K mg base CX k f fd ps sp) (h : ∀ vs H Q E, sp' vs H Q E → sp vs H Q E) : FnG P w K mg base CX k f fd ps sp' :=
  ⟨fun vs H Q E q => F.len vs H Q E (h _ _ _ _ q), fun A outer s H args us vs Q E hr e0 hb rv q => F.run A outer s H args us vs Q E hr e0 hb rv (h _ _ _ _ q)⟩
theorem _root_.L2.FnG.init {P : Program} {w : World} {mg : Str → Option Value} {base : Heap} {CX : CXT} {k n m : Nat} {f : Addr} {fd : FuncData} {ps : List Str} {u : Ws} (F : FnG P w K mg base CX k f fd ps (spF K n (fnOf n m u))) : FnG P w K mg base CX k f fd ps (spF K n (fnInit n m u)) :=
  L2.FnG.weak F fun vs H Q E h => by
    obtain ⟨F, P, as, R, Y, hl, sF, pn, r, q, k1, k2⟩ := h
    exact ⟨F, P, as, _, Y, hl, sF, pn, r, q, fun rv fin q => k1 rv fin q.2, k2⟩
theorem hn_init {n m : Nat} {u : Ws} : ∀ as R Y, fnInit n m u as R Y → fnInit n m u as (fun r fin => r = .d .non ∧ R r fin) Y := fun as R Y h => by
  have e : (fun (r : Rv) (δ : List S) => r = .d .non ∧ (r = .d .non ∧ R r δ)) = (fun (r : Rv) (δ : List S) => r = .d .non ∧ R r δ) := by
    funext r δ
    exact propext ⟨fun z => z.2, fun z => ⟨z.1, z⟩⟩
  unfold fnInit at h ⊢
  rw [e]
  exact h
theorem hf_init {n m : Nat} {u : Ws} : ∀ as R Y, fnInit n m u as R Y → as.length = n := fun _ _ _ h => h.1
theorem hf_of {n m : Nat} {u : Ws} : ∀ as R Y, fnOf n m u as R Y → as.length = n := fun _ _ _ h => h.1
theorem hdd0 : ∀ F, Reps K F [] [] := fun _ => rfl
theorem hdd1 {i : Int} : ∀ F, Reps K F [D.int i] [V.int i] := fun _ => Reps.cons rfl rfl
/-! ### the built-ins' rules by name -/
def zAbs : OC := fun ds P => ∃ i, ds = [.int i] ∧ P (.int (if i < 0 then -i else i))
def zLen : OC := fun ds P => ∃ d xs, ds = [d] ∧ itemsOf d = some xs ∧ P (.int xs.length)
def zMax : OC := fun ds P => ∃ i j, ds = [.int i, .int j] ∧ P (.int (if j > i then j else i))
def zMin : OC := fun ds P => ∃ i j, ds = [.int i, .int j] ∧ P (.int (if j < i then j else i))
def zInt : OC := fun ds P => (∃ i, ds = [.int i] ∧ P (.int i)) ∨ ∃ k, ds = [.bl k] ∧ P (.int (if k then 1 else 0))
def zGcd : OC := fun ds P => ∃ i j, ds = [.int i, .int j] ∧ P (.int ((Nat.gcd i.natAbs j.natAbs : Nat) : Int))
def zIsi (K : PySem.W.Frag) : OC := fun ds P => ∃ d c t u k, ds = [d, c] ∧ clsU c = some u ∧ tyD d = some t ∧ tyOk K d ∧ PySem.W.kitOne K t u = some k ∧ P (.bl k)
def zRepr : OC := fun ds P => ∃ d x, ds = [d] ∧ reprD d = some x ∧ P (.str x)
end
end L3

set_option Elab.async false
set_option linter.all false
set_option maxRecDepth 100000
set_option maxHeartbeats 1000000
/-! what the top has written, as checks over the written part; the end of a law -/
namespace L3
open PySem PySem.Spec PyProof.Rows L2
abbrev Ck := PySem.W.Frag → Bool
section
variable {K : PySem.W.Frag} {h : Heap} {mg : Str → Option Value}
theorem ba {a b : Bool} (h : (a && b) = true) : a = true ∧ b = true := Bool.and_eq_true_iff.mp h
def eqV {α : Type} [DecidableEq α] (a b : α) : Bool := decide (a = b)
theorem eqV_ok {α : Type} [DecidableEq α] {a b : α} (h : eqV a b = true) : a = b := of_decide_eq_true h
def kFa (f : He.Fa) : Ck := fun K => f.ok K
def kBui (x : Str) (id : String) : Ck := fun K => eqV (PySem.W.nsIn K mainGlobals x) (some (some (.builtin id)))
theorem kBui_ok (X : K.In h) (G : h.Ns mainGlobals mg) {x : Str} {id : String} (c : kBui x id K = true) : mg x = some (.builtin id) := PySem.W.mg_of X G (eqV_ok c)
/-- a property's getter -/
def gP (K : PySem.W.Frag) (p : Addr) : Addr := match PySem.W.recIn K p "property" with
  | some (.ref g :: _) => g
  | _ => 0
def kProp (x m : Str) : Ck := fun K => eqV (PySem.W.findIn K (.ref (He.ga K x)) m) (some (some (.ref (He.ma K (He.ga K x) m)))) && (eqV (PySem.W.specialIn K (.ref (He.ma K (He.ga K x) m)) "__get__") (some (some (.builtin "property.__get__"))) &&
  (eqV (PySem.W.takesIn K (.ref (He.ma K (He.ga K x) m))) (some true) && (match PySem.W.recIn K (He.ma K (He.ga K x) m) "property" with
  | some (.ref _ :: _) => true
  | _ => false)))
theorem kProp_ok {x m : Str} (c : kProp x m K = true) : PropOf K (He.ga K x) m (He.ma K (He.ga K x) m) (gP K (He.ma K (He.ga K x) m)) := by
  obtain ⟨c1, c⟩ := ba c
  obtain ⟨c2, c⟩ := ba c
  obtain ⟨c3, c4⟩ := ba c
  refine ⟨eqV_ok c1, eqV_ok c2, eqV_ok c3, ?_⟩
  unfold gP
  cases e : PySem.W.recIn K (He.ma K (He.ga K x) m) "property" with
  | none => rw [e] at c4; cases c4
  | some l =>
    rw [e] at c4
    cases l with
    | nil => cases c4
    | cons v r =>
      cases v with
      | ref g => exact ⟨r, rfl⟩
      | _ => cases c4
def kCmp (x m : Str) : Ck := fun K => eqV (PySem.W.findIn K (.ref (He.ga K x)) m) (some (some (.ref (He.ma K (He.ga K x) m)))) && PySem.W.isFn K (.ref (He.ma K (He.ga K x) m))
theorem kCmp_ok {x m : Str} (c : kCmp x m K = true) : CmpIn K (He.ga K x) (He.ma K (He.ga K x) m) m := by
  obtain ⟨c1, c2⟩ := ba c
  exact ⟨eqV_ok c1, c2⟩
def kOp (x m : Str) (nm : String) : Ck := fun K => eqV (PySem.dunder nm) m && (kCmp x m K && (PySem.W.selfFirst K (He.ga K x) && (eqV (PySem.W.findIn K (.ref (He.ga K x)) (dunderR nm)) (some none) &&
  ((PySem.W.findIn K (.type "int") (PySem.dunder nm)).isSome && ((PySem.W.findIn K (.type "int") (dunderR nm)).isSome && eqV (PySem.W.subIn K (.type "int") (.ref (He.ga K x))) (some false))))))
theorem kOp_ok {x m : Str} {nm : String} (c : kOp x m nm K = true) : OpIn K (He.ga K x) (He.ma K (He.ga K x) m) nm := by
  obtain ⟨c0, c⟩ := ba c
  obtain ⟨c1, c⟩ := ba c
  obtain ⟨c2, c⟩ := ba c
  obtain ⟨c3, c⟩ := ba c
  obtain ⟨c4, c⟩ := ba c
  obtain ⟨c5, c6⟩ := ba c
  obtain ⟨d1, d2⟩ := kCmp_ok c1
  exact ⟨c2, by rw [eqV_ok c0]; exact d1, d2, eqV_ok c3, Option.isSome_iff_exists.mp c4, Option.isSome_iff_exists.mp c5, eqV_ok c6⟩
def kNe (x : Str) : Ck := fun K => eqV (PySem.W.findIn K (.ref (He.ga K x)) "__ne__") (some (some (.builtin "object.__ne__")))
theorem kNe_ok {x : Str} (c : kNe x K = true) : PySem.W.findIn K (.ref (He.ga K x)) "__ne__" = some (some (.builtin "object.__ne__")) := eqV_ok c
def kOb (x : Str) : Ck := fun K => eqV (PySem.W.subIn K (.ref (He.ga K x)) (.type "object")) (some true)
theorem kOb_ok {x : Str} (c : kOb x K = true) : PySem.W.subIn K (.ref (He.ga K x)) (.type "object") = some true := eqV_ok c
theorem er0_of (X : K.In h) (G : h.Ns mainGlobals mg) {x : Str} (c1 : kFa (.exc x) K = true) (c2 : kFa (.glo x) K = true) : Er0 K mg (He.ga K x) x := by
  obtain ⟨a1, a2, a3, a4⟩ := He.exc_ok c1
  exact ⟨a1, He.glo_ok X G c2, a2, a3, a4⟩
def oexB (K : PySem.W.Frag) (C : Addr) : Bool := (match K.lookup C with
  | some ⟨.type t, _, .cls ⟨_, _, .ref C' :: bm, _, _, true, _, _, _, _, false⟩, sl⟩ => eqV t "type" && (eqV C' C && (PySem.HandSPX.refsVE bm && (match sl.toList with
    | [_, _, _, _, some (.builtin n), _] => eqV n "ValueError.__new__"
    | _ => false)))
  | _ => false) && (eqV (PySem.W.findIn K (.ref C) "__setattr__") (some (some (.builtin "object.__setattr__"))) && (eqV (PySem.W.subIn K (.ref C) (.type "BaseException")) (some true) && (eqV (PySem.W.typeIn K (.ref C)) (some (.type "type")) && PySem.W.keepIn K (.ref C))))
theorem oexB_ok {C : Addr} (c : oexB K C = true) : OexC K C := by
  obtain ⟨c1, c⟩ := ba c
  obtain ⟨c2, c⟩ := ba c
  obtain ⟨c3, c⟩ := ba c
  obtain ⟨c4, c5⟩ := ba c
  refine ⟨?_, eqV_ok c2, eqV_ok c3, eqV_ok c4, c5⟩
  split at c1
  · rename_i t dd nm bs C' bm ns q sn sub ab col sl e
    obtain ⟨d1, d⟩ := ba c1
    obtain ⟨d2, d⟩ := ba d
    obtain ⟨d3, d4⟩ := ba d
    split at d4
    · rename_i k0 k1 k2 k3 n k5 es
      have e1 : t = "type" := eqV_ok d1
      have e2 : C' = C := eqV_ok d2
      have e3 : n = "ValueError.__new__" := eqV_ok d4
      subst e1 e2 e3
      have es' : sl = #[k0, k1, k2, k3, some (.builtin "ValueError.__new__"), k5] := by
        apply Array.ext'
        exact es
      subst es'
      exact ⟨nm, q, ns, bs, bm, sn, sub, ab, col, dd, k0, k1, k2, k3, k5, e, d3⟩
    · cases d4
  · cases c1
def kEr1 (x fld : Str) : Ck := fun K => oexB K (He.ga K x) && (eqV (PySem.W.findIn K (.ref (He.ga K x)) "__init__") (some (some (.ref (He.ma K (He.ga K x) "__init__")))) && (eqV (PySem.W.typeIn K (.ref (He.ma K (He.ga K x) "__init__"))) (some (.type "function")) &&
  (eqV (PySem.W.findIn K (.ref (He.ga K x)) fld) (some none) && xfB K (He.ga K x))))
theorem er1_of (X : K.In h) (G : h.Ns mainGlobals mg) {x fld : Str} (c1 : kEr1 x fld K = true) (c2 : kFa (.glo x) K = true) : Er1 K mg (He.ga K x) (He.ma K (He.ga K x) "__init__") x fld := by
  obtain ⟨a1, c⟩ := ba c1
  obtain ⟨a2, c⟩ := ba c
  obtain ⟨a3, c⟩ := ba c
  obtain ⟨a4, a5⟩ := ba c
  exact ⟨oexB_ok a1, He.glo_ok X G c2, eqV_ok a2, eqV_ok a3, eqV_ok a4, xfB_ok a5⟩
def kXf (x : Str) : Ck := fun K => xfB K (He.ga K x)
theorem kXf_ok {x : Str} (c : kXf x K = true) : XfC K (He.ga K x) := xfB_ok c
/-- a type by its name, a class of the module's -/
inductive Tn where
  | t (n : String) | c (x : Str)
def Tn.v (K : PySem.W.Frag) : Tn → Value
  | .t n => .type n
  | .c x => .ref (He.ga K x)
def kKit (a b : Tn) (r : Bool) : Ck := fun K => eqV (PySem.W.kitOne K (a.v K) (b.v K)) (some r)
theorem kKit_ok {a b : Tn} {r : Bool} (c : kKit a b r K = true) : PySem.W.kitOne K (a.v K) (b.v K) = some r := eqV_ok c
def kNf (x : Str) (t : Tn) : Ck := fun K => PySem.W.notFirst K (He.ga K x) (t.v K)
theorem kNf_ok {x : Str} {t : Tn} (c : kNf x t K = true) : PySem.W.notFirst K (He.ga K x) (t.v K) = true := c
def kIsi (x : Str) : Ck := fun K => kFa (.cls x) K && (eqV (PySem.W.findIn K (.ref (He.ga K x)) "__class__") (some (some (.builtin "object.__class__"))) && (eqV (PySem.W.specialIn K (.builtin "object.__class__") "__get__") (some (some (.builtin "getset_descriptor.__get__"))) &&
  (eqV (PySem.W.takesIn K (.builtin "object.__class__")) (some true) && eqV (PySem.W.mroIn K (He.ga K x) (.type "object")) (some true))))
theorem kIsi_ok {x : Str} (c : kIsi x K = true) : IsiC K (He.ga K x) := by
  obtain ⟨a1, c⟩ := ba c
  obtain ⟨a2, c⟩ := ba c
  obtain ⟨a3, c⟩ := ba c
  obtain ⟨a4, a5⟩ := ba c
  exact ⟨fun H a dx fs e => .base (.ins e (He.cls_ok a1) (eqV_ok a2) (eqV_ok a3) (eqV_ok a4) (eqV_ok a5))⟩
end
/-! ### defs, where they stand told by a function of the written part -/
structure DefP where
  adr : PySem.W.Frag → Addr
  name : Str
  qual : Str
  st : Stmt
  dfl : List Int := []
abbrev FnX : Type := Option (Str × Str × Arguments × FuncBody × Scope × Addr × List (Str × Addr) × Addr)
def fnX (K : PySem.W.Frag) (a : Addr) : FnX := match K.lookup a with
  | some ⟨_, _, .func fd, _⟩ => some (fd.name, fd.qualname, fd.params, fd.body, fd.scope, fd.globals, fd.closure, fd.builtins)
  | _ => none
def DefP.val (d : DefP) : FnX := some (d.name, d.qual, defArgs d.st, .stmts (defBody d.st), defScope d.st, mainGlobals, [], builtinsNs)
def DefP.ok (K : PySem.W.Frag) (d : DefP) : Bool := PySem.W.keepIn K (.ref (d.adr K)) && (match K.lookup (d.adr K) with
  | some ⟨_, _, .func fd, _⟩ => PySem.W.codeIn K fd.code d.qual && He.dflB K fd.defaults (d.dfl.map V.int)
  | _ => false)
theorem DefP.funD {K : PySem.W.Frag} {d : DefP} (e : fnX K (d.adr K) = d.val) (c : d.ok K = true) : ∃ fd, FunD K d.name d.qual (defArgs d.st) (defBody d.st) (defScope d.st) (d.dfl.map V.int) [] (d.adr K) fd := by
  obtain ⟨kp, c2⟩ := ba c
  unfold fnX at e
  cases q : K.lookup (d.adr K) with
  | none => rw [q] at c2; cases c2
  | some o =>
    obtain ⟨oc, od, dt, osl⟩ := o
    rw [q] at c2 e
    cases dt with
    | func fd =>
      obtain ⟨n1, n2, n3, n4, n5, n6, n7, n8, n9, n10, n11, n12, n13, n14, n15⟩ := fd
      have e2 : (some (n1, n2, n3, n4, n5, n6, n7, n15) : FnX) = some (d.name, d.qual, defArgs d.st, .stmts (defBody d.st), defScope d.st, mainGlobals, [], builtinsNs) := e
      simp only [Option.some.injEq, Prod.mk.injEq] at e2
      obtain ⟨h1, h2, h3, h4, h5, h6, h7, h8⟩ := e2
      subst h1 h2 h3 h4 h5 h6 h7 h8
      obtain ⟨k1, k3⟩ := ba (show (PySem.W.codeIn K n13 d.qual && He.dflB K n8 (d.dfl.map V.int)) = true from c2)
      exact ⟨_, ⟨oc, od, n8, n9, n10, n11, n12, n13, n14, osl, rfl, q, k1, He.dflB_ok k3, .inl rfl⟩, kp⟩
    | _ => cases c2
theorem fun_of_D {K : PySem.W.Frag} {x qual : Str} {st : Stmt} {f : Addr} {fd : FuncData} (F : FunD K x qual (defArgs st) (defBody st) (defScope st) [] [] f fd) : L2.Fun K x qual st f fd := by
  obtain ⟨⟨oc, od, dV, kV, doc, pm, an, cdv, ct, osl, rfl, lk, hcd, hD, hK⟩, kp⟩ := F
  rcases hD with ⟨_, rfl⟩ | ⟨e, _⟩
  · exact ⟨⟨oc, od, kV, doc, pm, an, cdv, ct, osl, rfl, lk, hcd⟩, kp⟩
  · exact absurd rfl e
abbrev AlP : Type := Bool × List FnX
def obsP (ck : List Ck) (fn : List DefP) (K : PySem.W.Frag) : AlP := ((ck.all fun f => f K) && fn.all fun d => d.ok K, fn.map fun d => fnX K (d.adr K))
def valP (fn : List DefP) : AlP := (true, fn.map DefP.val)
def SaysP (ck : List Ck) (fn : List DefP) (K : PySem.W.Frag) : Prop := obsP ck fn K = valP fn
def obsPG (n : Nat) (ck : List Ck) (fn : List DefP) (g : Addr → Option Obj) : AlP := obsP ck fn (He.frG g (He.asD g n))
def hookP (n : Nat) (ck : List Ck) (fn : List DefP) : PySem.W.Hook where
  α := AlP
  obs := fun s => obsPG n ck fn s.heap.get?
  val := fun _ => valP fn
  says := fun _ h => ∃ K : PySem.W.Frag, K.In h ∧ SaysP ck fn K
  of := fun _ _ e => ⟨_, He.frG_in, e⟩
  keeps := fun _ _ _ ⟨K, hK, c⟩ k => ⟨K, PySem.W.Frag.In.keeps hK k, c⟩
theorem obsPG_eq {n : Nat} {ck : List Ck} {fn : List DefP} {g : Addr → Option Obj} {s : Shared} (h : ∀ a, g a = s.heap.get? a) : obsPG n ck fn g = (hookP n ck fn).obs s := by
  have e : g = s.heap.get? := funext h
  rw [e] <;> rfl
section
variable {ck : List Ck} {fn : List DefP} {K : PySem.W.Frag}
theorem SaysP.fact (c : SaysP ck fn K) (i : Nat) {f : Ck} (h : ck[i]? = some f := by rfl) : f K = true := by
  have c1 := (ba (show ((ck.all fun f => f K) && fn.all fun d => d.ok K) = true from congrArg (fun z : AlP => z.1) c)).1
  exact List.all_eq_true.mp c1 f (List.mem_of_getElem? h)
theorem SaysP.def_ (c : SaysP ck fn K) (i : Nat) {d : DefP} (h : fn[i]? = some d := by rfl) : ∃ fd, FunD K d.name d.qual (defArgs d.st) (defBody d.st) (defScope d.st) (d.dfl.map V.int) [] (d.adr K) fd := by
  have c2 := (ba (show ((ck.all fun f => f K) && fn.all fun d => d.ok K) = true from congrArg (fun z : AlP => z.1) c)).2
  have e : fn.map (fun d => fnX K (d.adr K)) = fn.map DefP.val := congrArg (fun z : AlP => z.2) c
  have e2 : (fn.map fun d => fnX K (d.adr K))[i]? = (fn.map DefP.val)[i]? := by rw [e]
  rw [List.getElem?_map, List.getElem?_map, h] at e2
  exact DefP.funD (Option.some.inj e2) (List.all_eq_true.mp c2 d (List.mem_of_getElem? h))
end
end L3

set_option Elab.async false
set_option linter.all false
/-! the last look at the head, at places that are written down -/
namespace L3
open PySem PySem.Spec PyProof.Rows L2
/-- the written part at these places, each looked up once -/
def frK {α : Type} (g : Addr → Option Obj) : List Addr → (PySem.W.Frag → α) → α
  | [], k => k []
  | a :: r, k => match g a with
    | some o => frK g r fun l => k ((a, o) :: l)
    | none => frK g r k
theorem frK_at {α : Type} {g : Addr → Option Obj} : ∀ (as : List Addr) (k : PySem.W.Frag → α), ∃ K : PySem.W.Frag, (∀ p ∈ K, g p.1 = some p.2) ∧ frK g as k = k K
  | [], k => ⟨[], fun _ h => (List.not_mem_nil h).elim, rfl⟩
  | a :: r, k => by
    cases e : g a with
    | none =>
      obtain ⟨K, h1, h2⟩ := frK_at (g := g) r k
      exact ⟨K, h1, by rw [frK, e]; exact h2⟩
    | some o =>
      obtain ⟨K, h1, h2⟩ := frK_at (g := g) r fun l => k ((a, o) :: l)
      refine ⟨(a, o) :: K, fun p hp => ?_, by rw [frK, e]; exact h2⟩
      rcases List.mem_cons.mp hp with rfl | hp
      · exact e
      · exact h1 p hp
theorem in_all {h : Heap} : ∀ {K : PySem.W.Frag}, (∀ p ∈ K, h.get? p.1 = some p.2) → K.In h
  | [], _, _, _, e => nomatch (show (none : Option Obj) = some _ from e)
  | (b, ob) :: r, hp, a, o, e => by
    have e2 : List.lookup a ((b, ob) :: r) = some o := e
    rw [List.lookup_cons] at e2
    by_cases q : (a == b) = true
    · have eb : a = b := by simpa using q
      rw [q] at e2
      have e3 : some ob = some o := e2
      rw [eb, ← e3]
      exact hp _ List.mem_cons_self
    · have q2 : (a == b) = false := by simpa using q
      rw [q2] at e2
      exact in_all (K := r) (fun p h2 => hp p (List.mem_cons_of_mem _ h2)) a o e2
def hookF (as : List Addr) (ck : List Ck) (fn : List DefP) : PySem.W.Hook where
  α := AlP
  obs := fun s => frK s.heap.get? as (obsP ck fn)
  val := fun _ => valP fn
  says := fun _ h => ∃ K : PySem.W.Frag, K.In h ∧ SaysP ck fn K
  of := fun _ s e => by
    obtain ⟨K, h1, h2⟩ := frK_at (g := s.heap.get?) as (obsP ck fn)
    exact ⟨K, in_all h1, h2.symm.trans e⟩
  keeps := fun _ _ _ ⟨K, hK, c⟩ k => ⟨K, PySem.W.Frag.In.keeps hK k, c⟩
theorem hookF_eq {as : List Addr} {ck : List Ck} {fn : List DefP} {g : Addr → Option Obj} {s : Shared} (h : ∀ a, g a = s.heap.get? a) : frK g as (obsP ck fn) = (hookF as ck fn).obs s := by
  have e : g = s.heap.get? := funext h
  rw [e] <;> rfl
end L3

set_option Elab.async false
set_option linter.all false
set_option maxRecDepth 100000
set_option maxHeartbeats 1000000
/-! a law's end: its def keeps its promise where no repr is under way -/
namespace L3
open PySem PySem.Spec PyProof.Rows L2
section
variable {P : Program} {w : World} {K : PySem.W.Frag} {mg mb : Str → Option Value} {CX : CXT} {k : Nat} {fa scr : Addr} {fd : FuncData} {par : Str} {sp : Sp} {s1 : Shared} {its : List Value} {ns : List Int}
abbrev scrO (its : List Value) : Obj := { cls := .type "list", data := .seq its.toArray }
/-- nothing but the script is known -/
structure Bareish (P : Program) (w : World) (K : PySem.W.Frag) (H : Hp) (s1 : Shared) (scr : Addr) : Prop where
  only : L2.Only H
  ok : HOk P w H s1.heap
  here : ∀ b, H b ≠ none → b = scr
  notK : H scr ≠ none → K.lookup scr = none
theorem Bareish.run {H : Hp} (bb : Bareish P w K H s1 scr) (inK : K.In s1.heap) (gl : s1.heap.Ns mainGlobals mg) (bi : s1.heap.Ns builtinsNs mb) (bis : ∀ x : Str, x ≠ "__name__" → mb x = bootBuiltins x) (nl : s1.heap.NoLimit) (gens : s1.gens = #[])
    (at_ : s1.heap.get? scr = some (scrO its)) (room : RmG k callerA) (F : ∀ base : Heap, K.In base → base.Ns mainGlobals mg → FnG P w K mg base CX k fa fd [par] sp) (bnd : ∀ (s : Shared) (u : Value), BindsTo s fd ⟨[u], []⟩ [(par, u)])
    (good : sp [.ref scr] H (fun v _ => v = .bl true) fun _ _ _ => False) (noX : ∀ H e s', CX [] H s1 (fun _ _ _ => False) e s' → False) :
    codeAny (model P w) callerA (.call (.ref fa) ⟨[.ref scr], []⟩) (fun r s' => r = .ok (.ret (.bool true)) ∧ OldK s1.heap s'.heap ∧ s'.os = s1.os ∧ AllBare s'.gens) s1 := by
  have free : ∀ {b : Addr}, b ≠ scr → H b = none := fun {b} ne => Classical.byContradiction fun q => ne (bb.here b q)
  have keepB : ∀ {b : Addr} {o : Obj}, s1.heap.get? b = some o → H b = none → (hidT s1.heap H).get? b = some o := fun g n => hidT_get g n
  have dictFree : ∀ {b : Addr} {o : Obj} {es : Array DictEntry} {ep : Nat}, s1.heap.get? b = some o → o.data = .dict es ep → H b = none := fun {b o es ep} g d => free fun eq => by
    subst eq
    have eo := Option.some.inj (at_.symm.trans g)
    subst eo
    have d' : Data.seq its.toArray _ = Data.dict es ep := d
    cases d'
  have nsB : ∀ {b : Addr} {m : Str → Option Value}, s1.heap.Ns b m → (hidT s1.heap H).Ns b m := by
    intro b m ⟨o, es, ep, g, d, rest⟩
    exact ⟨o, es, ep, keepB g (dictFree g d), d, rest⟩
  have kB : K.In (hidT s1.heap H) := fun b o g => keepB (inK b o g) (Classical.byContradiction fun q => by
    have eq := bb.here b q
    subst eq
    rw [bb.notK q] at g
    cases g)
  obtain ⟨ml, l1, l2⟩ := nl
  have env : Env0 P w K mg (hidT s1.heap H) callerA [] s1 H := ⟨rfl, ⟨kB, nsB gl, ⟨mb, nsB bi, bis⟩, ml, nsB l1, l2⟩, fun _ _ g => of_hidT g, Nat.le_of_eq (hidT_size _ _), trivial, fun b hb => (List.not_mem_nil hb).elim, bb.ok, AllBare.of_eq gens⟩
  refine codeAny_mono ((F _ kB (nsB gl)).run callerA [] s1 H ⟨[.ref scr], []⟩ [.ref scr] [.ref scr] _ _ room env (bnd s1 (.ref scr)) (.cons rfl .nil) good) ?_
  rintro (er | fl) s' out
  · exact (noX H er s' out).elim
  · cases fl with
    | ret u =>
      obtain ⟨v, H', h1, h2, un, h3, h4, rfl⟩ := out
      have eu : u = Value.bool true := h4
      subst eu
      refine ⟨rfl, OldK.of_keep fun b o g => ?_, h1, h2⟩
      rcases bb.only b with nb | ⟨ob, xs, fb⟩
      · exact un.keep b o g nb (List.not_mem_nil) (by simp)
      · obtain ⟨g1, _⟩ := bb.ok b _ fb
        obtain ⟨g2, _⟩ := h3 b _ (un.frzs b ob _ fb)
        exact (Option.some.inj (g.symm.trans g1)) ▸ g2
    | next => exact False.elim out
    | brk => exact False.elim out
    | cont => exact False.elim out
theorem law_G (inK : K.In s1.heap) (gl : s1.heap.Ns mainGlobals mg) (bi : s1.heap.Ns builtinsNs mb) (bis : ∀ x : Str, x ≠ "__name__" → mb x = bootBuiltins x) (nl : s1.heap.NoLimit) (gens : s1.gens = #[])
    (at_ : s1.heap.get? scr = some (scrO its)) (hin : IntsAre its ns) (len : ns.length ≤ sizeLine) (room : RmG k callerA) (F : ∀ base : Heap, K.In base → base.Ns mainGlobals mg → FnG P w K mg base CX k fa fd [par] sp) (bnd : ∀ (s : Shared) (u : Value), BindsTo s fd ⟨[u], []⟩ [(par, u)])
    (good : ∀ H : Hp, SqL K H scr (ns.map V.int) → sp [.ref scr] H (fun v _ => v = .bl true) fun _ _ _ => False) (noX : ∀ H e s', CX [] H s1 (fun _ _ _ => False) e s' → False) :
    codeAny (model P w) callerA (.call (.ref fa) ⟨[.ref scr], []⟩) (fun r s' => r = .ok (.ret (.bool true)) ∧ OldK s1.heap s'.heap ∧ s'.os = s1.os ∧ AllBare s'.gens) s1 := by
  have vals := vals_ints hin
  cases known : K.lookup scr with
  | some o =>
    have eo := Option.some.inj (at_.symm.trans (inK scr o known))
    subst eo
    have bb : Bareish P w K (fun _ => none) s1 scr := ⟨fun _ => .inl rfl, fun b u z => (by cases z), fun b z => absurd rfl z, fun z => absurd rfl z⟩
    exact bb.run inK gl bi bis nl gens at_ room F bnd (good _ (.inr ⟨_, its.toArray, _, known, rfl, rfl, rfl, by rw [List.size_toArray, hin.length]; exact len, by simpa using vals⟩)) noX
  | none =>
    let H : Hp := fun b => if b = scr then some (.frz (scrO its) (.lst (ns.map V.int))) else none
    have hs : H scr = some (.frz (scrO its) (.lst (ns.map V.int))) := if_pos rfl
    have hn : ∀ b, b ≠ scr → H b = none := fun b ne => if_neg ne
    have bb : Bareish P w K H s1 scr := ⟨fun b => by
        by_cases q : b = scr
        · subst q; exact .inr ⟨_, _, hs⟩
        · exact .inl (hn b q), fun b u z => (by
        by_cases q : b = scr
        · subst q
          rw [hs] at z
          cases z
          exact ⟨at_, by rw [List.length_map]; exact len, its, _, vals, at_⟩
        · rw [hn b q] at z
          cases z), fun b z => Classical.byContradiction fun q => z (hn b q), fun _ => known⟩
    exact bb.run inK gl bi bis nl gens at_ room F bnd (good H (.inl (.inr ⟨_, hs⟩))) noX
/-- the law's row, from the reading of its def over trees -/
theorem walk_G {l : PySem.W.OpenLaw} {n k : Nat} {q : Program} {loose : List Str} {XP : (Str → Option Value) → Heap → Prop} {YP : World → Heap → Prop} {d : DefRec} {par : Str} (hn : l.most = some n) (hn2 : n ≤ sizeLine) (hdf : d.params.defaults = []) (room : RmG k callerA)
    (F : ∀ (w : World) (mg : Str → Option Value) (fa : Addr) (h : Heap), YP w h → h.Ns mainGlobals mg → mg d.name = some (.ref fa) →
      ∃ (K : PySem.W.Frag) (fd : FuncData) (f : Fn), K.In h ∧ (∀ (s : Shared) (u : Value), BindsTo s fd ⟨[u], []⟩ [(par, u)]) ∧
        (∀ ns : List Int, ns.length ≤ n → f [.v (.lst (ns.map D.int))] (fun r _ => rvD r = .bl true) (fun _ _ => False)) ∧
        ∀ base : Heap, K.In base → base.Ns mainGlobals mg → FnG l.prog w K mg base (L2.CX l.prog w) k fa fd [par] (spF K 1 f)) :
    PySem.W.WalkO q loose XP YP l.row.toRowW d [] (fun f vs => PySem.call f vs) := by
  refine Att.attach_call hn hdf fun w s0 s1 mg mb fa o pm cd doc a vs ns G Y ho hd hcd hmg hobj hints hlen hg => ?_
  obtain ⟨K, fd, f, inK, bnd, good, hF⟩ := F w mg fa _ Y G.T.g hmg
  refine law_G inK G.T.g G.T.b G.T.builtins G.T.nolimit hg hobj hints (Nat.le_trans hlen hn2) room hF bnd (fun H hS => ?_) fun H e s' z => by
    obtain ⟨_, _, _, _, _, _, _, _, _, _, _, _, z⟩ := z
    exact z
  have rep : ∀ l : List Int, Reps K H (l.map D.int) (l.map V.int) := fun l => by
    induction l with
    | nil => rfl
    | cons i l ih => exact Reps.cons rfl ih
  refine ⟨H, fun _ => none, _, _, _, rfl, Same.refl _, (fun _ _ z => by cases z), rs_args (ds := [.lst (ns.map D.int)]) (vs := [.ref a]) (Reps.cons ⟨a, _, rfl, hS, rep ns⟩ rfl), good ns hlen, fun r fin z v F' H' wf _ ok => ?_, fun er fin z => z.elim⟩
  cases r with
  | d d =>
    have e : d = .bl true := z
    subst e
    exact ok
  | l xs => cases z
end
end L3
namespace L3
open PySem PySem.Spec PyProof.Rows L2
theorem binds_all {K : PySem.W.Frag} {fd : FuncData} {ps : List Str} {v : V} (h : ∃ ds, Vals (List.drop 1 [v]) ds ∧ Binds K fd ps ds) : Binds K fd ps [] := by
  obtain ⟨ds, r, b⟩ := h
  cases (show Vals [] ds from r)
  exact b
theorem bindsA1 {K : PySem.W.Frag} {x qual par : Str} {st : Stmt} {f : Addr} {fd : FuncData} (F : L2.Fun K x qual st f fd)
    (h : ∀ (kV doc pm : Value) (an : Option Addr) (cdv ct : Value) (us : List Value), us.length = ([par] : List Str).length → bindArgs (PySem.W.fnOf x qual (defArgs st) (defBody st) (defScope st) .none kV doc pm an cdv ct) ⟨us, []⟩ = pure (([par] : List Str).zip us)) (s : Shared) (u : Value) : BindsTo s fd ⟨[u], []⟩ [(par, u)] := by
  obtain ⟨oc, od, kV, doc, pm, an, cdv, ct, osl, rfl, lk, hcd⟩ := F.ex
  exact .of_eq (h kV doc pm an cdv ct [u] rfl)
end L3

set_option Elab.async false
set_option linter.all false
set_option maxRecDepth 100000
set_option maxHeartbeats 4000000
namespace K01
open PySem L2 L3
def top (i : Nat) : Stmt := PySem.Challenge.pw_rangepools_k01_errors.main.body.getD i (.Pass ⟨0, 0, 0, 0⟩)
abbrev s_l_cell : Stmt := top 32
abbrev s_l_box : Stmt := top 33
abbrev s_l_take : Stmt := top 34
abbrev s_BadNumber_init : Stmt := inClass (top 14) 0
abbrev s_BadSize_init : Stmt := inClass (top 15) 0
abbrev s_BadRoot_init : Stmt := inClass (top 16) 0
abbrev s_BadFee_init : Stmt := inClass (top 17) 0
abbrev s_BadGood_init : Stmt := inClass (top 18) 0
abbrev s_BadAmount_init : Stmt := inClass (top 19) 0
abbrev s_NoWay_init : Stmt := inClass (top 20) 0
abbrev s_BadName_init : Stmt := inClass (top 21) 0
abbrev s_InUse_init : Stmt := inClass (top 22) 0
abbrev s_NoPosition_init : Stmt := inClass (top 23) 0
abbrev s_NoPool_init : Stmt := inClass (top 24) 0
abbrev s_BadWeb_init : Stmt := inClass (top 25) 0
abbrev s_NoGood_init : Stmt := inClass (top 26) 0
abbrev s_BadShare_init : Stmt := inClass (top 27) 0
abbrev s_BadDeed_init : Stmt := inClass (top 28) 0
abbrev s_Short_init : Stmt := inClass (top 29) 0
abbrev s_l_same : Stmt := top 35
abbrev s_BadLine_init : Stmt := inClass (top 30) 0
abbrev s_l_kinds : Stmt := top 36
abbrev s_l_bases : Stmt := top 37
abbrev s_l_law : Stmt := top 38
end K01

set_option Elab.async false
set_option linter.all false
set_option maxRecDepth 100000
/-! LH: a head in pieces, the states between written by hand. -/
noncomputable section
namespace LH
open PySem PySem.W PySem.Calls PyProof.Rows HandSHeadRun

def execsQ : List Stmt → Env → Sem Flow := PySem.W.Fast.tw12563942051412417395
theorem execsQ_eq : @PySem.execs = execsQ := PySem.W.Fast.te12563942051412417395
def blockQ := @PySem.W.Fast.tw1066825118222455980
theorem blockQ_eq : @PySem.blockStart = blockQ := PySem.W.Fast.te1066825118222455980
def okQ := @PySem.W.Fast.tw6613529449190102663
theorem okQ_eq : @PySem.W.stepOk = okQ := PySem.W.Fast.te6613529449190102663

section
variable (st : SharedT → Thread → Option (SharedT × Thread)) (n0 : Nat) (ann : Option Value)
/-- a piece, to its end -/
def sgF : Nat → SharedT → Thread → Option (Flow × SharedT × Code × Pos)
  | 0, _, _ => none
  | m + 1, s, t => match endAt 1 t with
    | some f => some (f, s, t.code, t.pos)
    | none => match okQ n0 ann t with
      | false => none
      | true => match st s t with
        | some (s', t') => frS s' fun s' => sgF m s' t'
        | none => none
/-- so many steps -/
def goE : Nat → SharedT → Thread → Option (SharedT × Thread)
  | 0, s, t => some (s, t)
  | m + 1, s, t => match through t with
    | true => none
    | false => match okQ n0 ann t with
      | false => none
      | true => match st s t with
        | some (s', t') => frS s' fun s' => goE m s' t'
        | none => none
end
theorem sgF_ok {tb : String → Option Builtin} {p : Program} {w : World} {n0 : Nat} {ann : Option Value} : ∀ {m : Nat} {s s' : SharedT} {t : Thread} {f : Flow} {c : Code} {q : Pos}, sgF (stepT (denote tb) p w) n0 ann m s t = some (f, s', c, q) → segRunT tb p w n0 ann 1 m s t = some (f, s', c, q)
  | 0, _, _, _, _, _, _, h => by cases h
  | m + 1, s, s', t, f, c, q, h => by
    unfold sgF at h
    unfold segRunT
    rw [← okQ_eq] at h
    cases he : endAt 1 t with
    | some x =>
      rw [he] at h
      exact h
    | none =>
      rw [he] at h
      cases hk : stepOk n0 ann t with
      | false =>
        rw [hk] at h
        cases h
      | true =>
        rw [hk] at h
        cases hs : stepT (denote tb) p w s t with
        | none =>
          rw [hs] at h
          cases h
        | some r =>
          obtain ⟨s2, t2⟩ := r
          rw [hs] at h
          have h3 : (frS s2 fun s' => sgF (stepT (denote tb) p w) n0 ann m s' t2) = some (f, s', c, q) := h
          rw [frS_eq] at h3
          exact sgF_ok h3
theorem goE_ok {tb : String → Option Builtin} {p : Program} {w : World} {n0 : Nat} {ann : Option Value} : ∀ {m : Nat} {s s' : SharedT} {t t' : Thread}, goE (stepT (denote tb) p w) n0 ann m s t = some (s', t') → topGo tb p w n0 ann m s.abs t = some (s'.abs, t')
  | 0, _, _, _, _, h => by cases h; rfl
  | m + 1, s, s', t, t', h => by
    unfold goE at h
    unfold topGo
    rw [← okQ_eq] at h
    cases ht : through t with
    | true =>
      rw [ht] at h
      cases h
    | false =>
      rw [ht] at h
      cases hk : stepOk n0 ann t with
      | false =>
        rw [hk] at h
        cases h
      | true =>
        rw [hk] at h
        cases hs : stepT (denote tb) p w s t with
        | none =>
          rw [hs] at h
          cases h
        | some r =>
          obtain ⟨s2, t2⟩ := r
          rw [hs] at h
          have h3 : (frS s2 fun s' => goE (stepT (denote tb) p w) n0 ann m s' t2) = some (s', t') := h
          rw [frS_eq] at h3
          rw [stepT_spec hs]
          exact goE_ok h3

/-! ### states written down -/
/-- a state behind a piece: the tree, the number of its objects, what is left besides -/
structure St where
  tr : Params → BT
  n : Nat
  gs : Array GenState
  dr : Drawn
  tk : Nat
def St.at (x : St) (life : Life) (w : World) (os : OsState) : SharedT := ⟨x.tr w.params, x.n, life, x.gs, x.dr, x.tk, os⟩

/-- the opening, to the state ahead of the top -/
def openF (st : Program → SharedT → Thread → Option (SharedT × Thread)) (fence : Program → Shared → Option Shared) (M : Nat) (p : Program) : Option SharedT := match impF (st (opening p)) M (startT (opening p)) (start (opening p)).2 with
  | some s => (match fence p s.abs with
    | some s0 => treeOf s0
    | none => none)
  | none => none
theorem openF_ok {M : Nat} {p : Program} {w : World} {x : SharedT} (h : openF (fun q => stepT (denote treeTable) q w) fenceModules? M p = some x) :
    fencedOpening treeTable p w M = some x.abs := by
  unfold openF at h
  cases e1 : impF (stepT (denote treeTable) (opening p) w) M (startT (opening p)) (start (opening p)).2 with
  | none =>
    rw [e1] at h
    cases h
  | some s =>
    rw [e1] at h
    have h1 : (match fenceModules? p s.abs with
      | some s0 => treeOf s0
      | none => none) = some x := h
    have a1 := impF_ok e1
    rw [startT_eq] at a1
    cases e2 : fenceModules? p s.abs with
    | none =>
      rw [e2] at h1
      cases h1
    | some z =>
      rw [e2] at h1
      obtain ⟨ex, en⟩ := treeOf_eq h1
      unfold fencedOpening
      rw [a1]
      show fenceModules? p s.abs = _
      rw [e2, ex]

/-- all that a head's text says -/
structure Says (p : Program) where
  life : Life
  ann : Option Value
  env : Env
  q : Pos
  M0 : Nat
  S0 : St
  k1 : Nat
  Sa : St
  pa : Pos
  k2 : Nat
  Sb : St
  pb : Pos
def Says.cE {p : Program} (y : Says p) : Code := .body (behindTheImports p) y.env
def Says.B {p : Program} (y : Says p) : List Frame := [topFrame y.q]
def Says.step {p : Program} (_ : Says p) (w : World) : SharedT → Thread → Option (SharedT × Thread) := stepQ (denQ tabQ) p w

def Says.Open {p : Program} (y : Says p) : Prop := ∀ w : World, (openF (fun q => stepQ (denQ tabQ) q w) fenceQ y.M0 p).map (fun x => (x.tree, x.n, x.life, x.gens, x.drawn, x.toks)) = some (y.S0.tr w.params, y.S0.n, y.life, y.S0.gs, y.S0.dr, y.S0.tk)
def Says.Size {p : Program} (y : Says p) : Prop := ∀ w : World, ((absHeap (y.S0.tr w.params) y.S0.n y.life).isNs mainGlobals && y.S0.gs.size == 0, (absHeap (y.S0.tr w.params) y.S0.n y.life).nsMap mainGlobals "__annotations__") = (true, y.ann)
def Says.Pre {p : Program} (y : Says p) : Prop := ∀ (w : World) (os : OsState), goE (y.step w) y.S0.n y.ann y.k1 (y.S0.at y.life w os) (topStub p) = some (y.Sa.at y.life w os, ⟨denQ tabQ y.cE, y.cE, y.pa, y.B⟩)
def Says.Block {p : Program} (y : Says p) : Prop := ∀ (w : World) (os : OsState), sgF (y.step w) y.S0.n y.ann y.k2 (y.Sa.at y.life w os) ⟨(blockQ (behindTheImports p) y.env).wrap (fun _ => doneF .next) deadEnd id id, y.cE, y.pa, y.B⟩ = some (.next, y.Sb.at y.life w os, y.cE, y.pb)
/-- a piece: some statements -/
def Says.Piece {p : Program} (y : Says p) (k : Nat) (S : St) (ps : Pos) (l : List Stmt) (S' : St) (ps' : Pos) : Prop := ∀ (w : World) (os : OsState), sgF (y.step w) y.S0.n y.ann k (S.at y.life w os) ⟨(execsQ l y.env).wrap doneF deadEnd id id, y.cE, ps, y.B⟩ = some (.next, S'.at y.life w os, y.cE, ps')
/-- the end -/
def Says.Fin {p : Program} (y : Says p) (k : Nat) (S : St) (ps : Pos) (S' : St) : Prop := ∀ (w : World) (os : OsState), goF (y.step w) y.S0.n y.ann k (S.at y.life w os) ⟨doneF .next, y.cE, ps, y.B⟩ = some (S'.at y.life w os)
/-- from a state with these statements left -/
def Says.Rest {p : Program} (y : Says p) (N : Nat) (S : St) (ps : Pos) (l : List Stmt) (S' : St) : Prop := ∀ (w : World) (os : OsState), topRun treeTable p w y.S0.n y.ann N (S.at y.life w os).abs (restOf l y.env y.cE ps y.B) = some (S'.at y.life w os).abs
theorem step_eq {p : Program} (y : Says p) (w : World) : y.step w = stepT (denote treeTable) p w := by
  unfold Says.step
  rw [← stepQ_eq, ← denQ_eq, ← tabQ_eq]
theorem fin_rest {p : Program} {y : Says p} {k : Nat} {S S' : St} {ps : Pos} (h : y.Fin k S ps S') : y.Rest k S ps [] S' := fun w os => by
  have z := h w os
  rw [step_eq] at z
  exact piece_nil (goF_ok z)
theorem piece_rest {p : Program} {y : Says p} {k N : Nat} {S S' S2 : St} {ps ps' : Pos} {l r : List Stmt} (h : y.Piece k S ps l S' ps') (z : y.Rest N S' ps' r S2) : y.Rest (k + N) S ps (l ++ r) S2 := fun w os => by
  have a := h w os
  rw [step_eq] at a
  rw [← execsQ_eq] at a
  exact piece_app (segRun_of (sgF_ok a)) (z w os)
theorem top_run {p : Program} {y : Says p} {N : Nat} {S2 : St} (h1 : y.Pre) (h2 : y.Block) (z : y.Rest N y.Sb y.pb (behindTheImports p) S2) :
    ∀ (w : World) (os : OsState), topRun treeTable p w y.S0.n y.ann (y.k1 + (y.k2 + N)) (y.S0.at y.life w os).abs (topStub p) = some (S2.at y.life w os).abs := fun w os => by
  have a := h1 w os
  rw [step_eq, ← denQ_eq, ← tabQ_eq] at a
  have b := h2 w os
  rw [step_eq, ← blockQ_eq] at b
  exact go_top (goE_ok a) (piece_block (segRun_of (sgF_ok b)) (z w os))
theorem left_pieces {p q : Program} {y : Says p} {loose : List Str} {Xt : Shared → Bool} {α : Type} {Yf : Shared → α} {ob : SharedT → α} {Ya : World → α} {N : Nat} {S2 : St} (ho : ∀ s : SharedT, ob s = Yf s.abs)
    (h0 : y.Open) (hz : y.Size) (h1 : y.Pre) (h2 : y.Block) (z : y.Rest N y.Sb y.pb (behindTheImports p) S2) (le : Nat.ble (y.k1 + (y.k2 + N)) y.M0 = true)
    (looks : ∀ (w : World) (os : OsState), (looksF p (absHeap (y.S0.tr w.params) y.S0.n y.life) (S2.at y.life w os).abs, seenQ q loose (importedModules p.main.body) Xt (S2.at y.life w os).abs, ob (S2.at y.life w os)) = (true, openGood q loose, Ya w)) :
    LeftO p q loose Xt Yf Ya y.M0 true :=
  LeftO.of_pieces (H₀ := fun P => absHeap (y.S0.tr P) y.S0.n y.life) (H₁ := fun P => absHeap (S2.tr P) S2.n y.life) (gs₀ := y.S0.gs) (gs₁ := S2.gs) (d₀ := y.S0.dr) (d₁ := S2.dr) (k₀ := y.S0.tk) (k₁ := S2.tk) (m₀ := y.S0.n) (ann := y.ann) (M := y.k1 + (y.k2 + N))
    (fun w => by
      have a := h0 w
      rw [show (fun q => stepQ (denQ tabQ) q w) = (fun q => stepT (denote treeTable) q w) by rw [stepQ_eq, denQ_eq, tabQ_eq], ← fenceQ_eq] at a
      obtain ⟨x, hx, hv⟩ := Option.map_eq_some_iff.mp a
      rw [openF_ok hx]
      obtain ⟨T, n, life, gens, drawn, toks, os⟩ := x
      obtain ⟨e1, e2, e3, e4, e5, e6⟩ : T = y.S0.tr w.params ∧ n = y.S0.n ∧ life = y.life ∧ gens = y.S0.gs ∧ drawn = y.S0.dr ∧ toks = y.S0.tk := by simpa using hv
      subst e1 e2 e3 e4 e5 e6
      rfl)
    (fun w => by
      have a := hz w
      obtain ⟨a1, a2⟩ : _ ∧ _ := by simpa only [Prod.mk.injEq] using a
      show (_, (absHeap (y.S0.tr w.params) y.S0.n y.life).objs.size, _) = _
      rw [absHeap_size, a1, a2])
    (top_run h1 h2 z) le
    (fun w => by
      funext os
      have a := looks w os
      rw [← seenQ_eq] at a
      rw [show ob (S2.at y.life w os) = Yf (S2.at y.life w os).abs from ho _] at a
      exact a)
/-- a law over a head in pieces -/
theorem head_pieces {r : OpenRow} {q : Program} {y : Says r.prog} {H : Hook} {ob : SharedT → H.α} {N : Nat} {S2 : St} {loose : List PySem.Str} {d : DefRec} {kwd : List (PySem.Str × PySem.Expr)} (ho : ∀ s : SharedT, ob s = H.obs s.abs)
    (h0 : y.Open) (hz : y.Size) (h1 : y.Pre) (h2 : y.Block) (z : y.Rest N y.Sb y.pb (behindTheImports r.prog) S2) (le : Nat.ble (y.k1 + (y.k2 + N)) y.M0 = true)
    (looks : ∀ (w : World) (os : OsState), (looksF r.prog (absHeap (y.S0.tr w.params) y.S0.n y.life) (S2.at y.life w os).abs, seenQ q loose (importedModules r.prog.main.body) (fun s => xlAt q [] s && recOk r.toRowW.records s) (S2.at y.life w os).abs, ob (S2.at y.life w os)) = (true, openGood q loose, H.val w))
    (hdef : defOf q r.name = some (d, kwd)) (hp : r.prog.theDef r.name = some (d.params, d.body, d.scope)) (hk : kwWritten? d.params.kwonlyargs d.params.kw_defaults = some kwd)
    (hwr : (!r.writes || r.records.isEmpty) = true) (kk : r.wellSaid = true) (ok : (chainsOk q && opensWell r.prog && (frees r.toRowW && r.within.isEmpty)) = true) (hb : r.prog.bare) (hw : r.toRowW.promised)
    (call : WalkO q loose (XL q []) H.says r.toRowW d kwd fun f vs => PySem.call f vs) : r.Holds := by
  have left : LeftO r.prog q loose (fun s => xlAt q [] s && recOk r.toRowW.records s) H.obs H.val y.M0 true := left_pieces ho h0 hz h1 h2 z le looks
  exact holds_open (r := r) (q := q) (loose := loose) (XP := XL q []) (YP := H.says) (d := d) (kwd := kwd) left H.of H.keeps (fun s z => xl_of s (Bool.and_eq_true_iff.mp z).1) XL.keeps hdef hp hk (fun s z => recFacts_of (Bool.and_eq_true_iff.mp z).2) hwr kk ok hb hw call
end LH

set_option Elab.async false
set_option linter.all false
set_option maxRecDepth 100000
set_option maxHeartbeats 1000000
/-! many error classes, none below another one -/
namespace L3
open PySem L2
def excB (K : PySem.W.Frag) (D : Addr) : Bool := eqV (PySem.W.findIn K (.ref D) "__getattribute__") (some (some (.builtin "BaseException.__getattribute__"))) && (eqV (PySem.W.findIn K (.ref D) "__getattr__") (some none) && (eqV (PySem.W.subIn K (.ref D) (.type "BaseException")) (some true) && (PySem.W.hasDictIn K D &&
  (eqV (PySem.W.findIn K (.ref D) "__class__") (some (some (.builtin "object.__class__"))) && (eqV (PySem.W.specialIn K (.builtin "object.__class__") "__get__") (some (some (.builtin "getset_descriptor.__get__"))) && (eqV (PySem.W.takesIn K (.builtin "object.__class__")) (some true) && eqV (PySem.W.mroIn K D (.type "object")) (some true)))))))
theorem excB_ok {K : PySem.W.Frag} {D : Addr} (c : excB K D = true) : L2.ExcC K D := by
  obtain ⟨c1, c⟩ := ba c
  obtain ⟨c2, c⟩ := ba c
  obtain ⟨c3, c⟩ := ba c
  obtain ⟨c4, c⟩ := ba c
  obtain ⟨c5, c⟩ := ba c
  obtain ⟨c6, c⟩ := ba c
  obtain ⟨c7, c8⟩ := ba c
  exact ⟨eqV_ok c1, eqV_ok c2, eqV_ok c3, c4, eqV_ok c5, eqV_ok c6, eqV_ok c7, eqV_ok c8⟩
/-- cs: error classes, each below pe and ValueError, none below another one -/
structure ErsK (K : PySem.W.Frag) (cs : List Addr) (pe : Addr) : Prop where
  ex : ∀ c ∈ cs, L2.ExcC K c
  up : ∀ c ∈ cs, PySem.W.kitOne K (.ref c) (.ref pe) = some true
  ve : ∀ c ∈ cs, PySem.W.kitOne K (.ref c) (.type "ValueError") = some true
  no : ∀ (i j : Nat) (hi : i < cs.length) (hj : j < cs.length), PySem.W.kitOne K (.ref cs[i]) (.ref cs[j]) = some (decide (i = j))
def rowB (K : PySem.W.Frag) (c : Addr) (i : Nat) : Nat → List Addr → Bool
  | _, [] => true
  | j, d :: ds => eqV (PySem.W.kitOne K (.ref c) (.ref d)) (some (decide (i = j))) && rowB K c i (j + 1) ds
theorem rowB_ok {K : PySem.W.Frag} {c : Addr} {i : Nat} : ∀ {ds : List Addr} {j0 : Nat}, rowB K c i j0 ds = true → ∀ (j : Nat) (hj : j < ds.length), PySem.W.kitOne K (.ref c) (.ref ds[j]) = some (decide (i = j0 + j))
  | d :: ds, j0, h, 0, _ => by
    obtain ⟨h1, _⟩ := ba h
    exact eqV_ok h1
  | d :: ds, j0, h, j + 1, hj => by
    obtain ⟨_, h2⟩ := ba h
    have := rowB_ok h2 j (by simpa using hj)
    rw [show j0 + (j + 1) = j0 + 1 + j by omega]
    exact this
def allB (K : PySem.W.Frag) (all : List Addr) (pe : Addr) : Nat → List Addr → Bool
  | _, [] => true
  | i, c :: cs => (excB K c && (eqV (PySem.W.kitOne K (.ref c) (.ref pe)) (some true) && (eqV (PySem.W.kitOne K (.ref c) (.type "ValueError")) (some true) && rowB K c i 0 all))) && allB K all pe (i + 1) cs
theorem allB_ok {K : PySem.W.Frag} {all : List Addr} {pe : Addr} : ∀ {cs : List Addr} {i0 : Nat}, allB K all pe i0 cs = true → ∀ (i : Nat) (hi : i < cs.length), L2.ExcC K cs[i] ∧ PySem.W.kitOne K (.ref cs[i]) (.ref pe) = some true ∧ PySem.W.kitOne K (.ref cs[i]) (.type "ValueError") = some true ∧ ∀ (j : Nat) (hj : j < all.length), PySem.W.kitOne K (.ref cs[i]) (.ref all[j]) = some (decide (i0 + i = j))
  | c :: cs, i0, h, 0, _ => by
    obtain ⟨h1, _⟩ := ba h
    obtain ⟨a1, a⟩ := ba h1
    obtain ⟨a2, a⟩ := ba a
    obtain ⟨a3, a4⟩ := ba a
    refine ⟨excB_ok a1, eqV_ok a2, eqV_ok a3, fun j hj => ?_⟩
    have := rowB_ok a4 j hj
    rw [Nat.zero_add] at this
    exact this
  | c :: cs, i0, h, i + 1, hi => by
    obtain ⟨_, h2⟩ := ba h
    have := allB_ok h2 i (by simpa using hi)
    rw [show i0 + (i + 1) = i0 + 1 + i by omega]
    exact this
def kErs (xs : List Str) (pe : Str) : Ck := fun K => allB K (xs.map (He.ga K)) (He.ga K pe) 0 (xs.map (He.ga K))
theorem kErs_ok {K : PySem.W.Frag} {xs : List Str} {pe : Str} (c : kErs xs pe K = true) : ErsK K (xs.map (He.ga K)) (He.ga K pe) := by
  have h := allB_ok c
  refine ⟨fun c hc => ?_, fun c hc => ?_, fun c hc => ?_, fun i j hi hj => ?_⟩
  · obtain ⟨i, hi, rfl⟩ := List.getElem_of_mem hc
    exact (h i hi).1
  · obtain ⟨i, hi, rfl⟩ := List.getElem_of_mem hc
    exact (h i hi).2.1
  · obtain ⟨i, hi, rfl⟩ := List.getElem_of_mem hc
    exact (h i hi).2.2.1
  · have := (h i hi).2.2.2 j hj
    rw [Nat.zero_add] at this
    exact this
end L3

set_option Elab.async false
set_option linter.all false
set_option maxRecDepth 100000
set_option maxHeartbeats 4000000
namespace K01
open PySem PySem.Spec PyProof.Rows L2 L3
def dp_l_law : DefP := ⟨fun K => He.ga K "law", "law", "law", s_l_law, []⟩
def dp_l_box : DefP := ⟨fun K => He.ga K "_law_box", "_law_box", "_law_box", s_l_box, []⟩
def dp_l_cell : DefP := ⟨fun K => He.ga K "_law_cell", "_law_cell", "_law_cell", s_l_cell, []⟩
def dp_l_take : DefP := ⟨fun K => He.ga K "_law_take", "_law_take", "_law_take", s_l_take, []⟩
def dp_BadNumber_init : DefP := ⟨fun K => He.ma K (He.ga K "BadNumber") "__init__", "__init__", "BadNumber.__init__", s_BadNumber_init, []⟩
def dp_BadSize_init : DefP := ⟨fun K => He.ma K (He.ga K "BadSize") "__init__", "__init__", "BadSize.__init__", s_BadSize_init, []⟩
def dp_BadRoot_init : DefP := ⟨fun K => He.ma K (He.ga K "BadRoot") "__init__", "__init__", "BadRoot.__init__", s_BadRoot_init, []⟩
def dp_BadFee_init : DefP := ⟨fun K => He.ma K (He.ga K "BadFee") "__init__", "__init__", "BadFee.__init__", s_BadFee_init, []⟩
def dp_BadGood_init : DefP := ⟨fun K => He.ma K (He.ga K "BadGood") "__init__", "__init__", "BadGood.__init__", s_BadGood_init, []⟩
def dp_BadAmount_init : DefP := ⟨fun K => He.ma K (He.ga K "BadAmount") "__init__", "__init__", "BadAmount.__init__", s_BadAmount_init, []⟩
def dp_NoWay_init : DefP := ⟨fun K => He.ma K (He.ga K "NoWay") "__init__", "__init__", "NoWay.__init__", s_NoWay_init, []⟩
def dp_BadName_init : DefP := ⟨fun K => He.ma K (He.ga K "BadName") "__init__", "__init__", "BadName.__init__", s_BadName_init, []⟩
def dp_InUse_init : DefP := ⟨fun K => He.ma K (He.ga K "InUse") "__init__", "__init__", "InUse.__init__", s_InUse_init, []⟩
def dp_NoPosition_init : DefP := ⟨fun K => He.ma K (He.ga K "NoPosition") "__init__", "__init__", "NoPosition.__init__", s_NoPosition_init, []⟩
def dp_NoPool_init : DefP := ⟨fun K => He.ma K (He.ga K "NoPool") "__init__", "__init__", "NoPool.__init__", s_NoPool_init, []⟩
def dp_BadWeb_init : DefP := ⟨fun K => He.ma K (He.ga K "BadWeb") "__init__", "__init__", "BadWeb.__init__", s_BadWeb_init, []⟩
def dp_NoGood_init : DefP := ⟨fun K => He.ma K (He.ga K "NoGood") "__init__", "__init__", "NoGood.__init__", s_NoGood_init, []⟩
def dp_BadShare_init : DefP := ⟨fun K => He.ma K (He.ga K "BadShare") "__init__", "__init__", "BadShare.__init__", s_BadShare_init, []⟩
def dp_BadDeed_init : DefP := ⟨fun K => He.ma K (He.ga K "BadDeed") "__init__", "__init__", "BadDeed.__init__", s_BadDeed_init, []⟩
def dp_Short_init : DefP := ⟨fun K => He.ma K (He.ga K "Short") "__init__", "__init__", "Short.__init__", s_Short_init, []⟩
def dp_l_same : DefP := ⟨fun K => He.ga K "_law_same", "_law_same", "_law_same", s_l_same, []⟩
def dp_BadLine_init : DefP := ⟨fun K => He.ma K (He.ga K "BadLine") "__init__", "__init__", "BadLine.__init__", s_BadLine_init, []⟩
def dp_l_bases : DefP := ⟨fun K => He.ga K "_law_bases", "_law_bases", "_law_bases", s_l_bases, []⟩
def dp_l_kinds : DefP := ⟨fun K => He.ga K "_law_kinds", "_law_kinds", "_law_kinds", s_l_kinds, []⟩
def ck0 : List Ck := [kFa (.free "len"), kFa (.glo "_law_cell"), kFa (.free "int"), kFa (.free "abs"), kFa (.glo "_law_box"), kFa (.glo "_law_take"), kEr1 "BadNumber" "given", kFa (.glo "BadNumber"), kEr1 "BadSize" "given", kFa (.glo "BadSize"), kEr1 "BadRoot" "given", kFa (.glo "BadRoot"), kEr1 "BadFee" "given", kFa (.glo "BadFee"), kEr1 "BadGood" "given", kFa (.glo "BadGood"), kEr1 "BadAmount" "given", kFa (.glo "BadAmount"), kEr1 "NoWay" "given", kFa (.glo "NoWay"), kEr1 "BadName" "given", kFa (.glo "BadName"), kEr1 "InUse" "given", kFa (.glo "InUse"), kEr1 "NoPosition" "given", kFa (.glo "NoPosition"), kEr1 "NoPool" "given", kFa (.glo "NoPool"), kEr1 "BadWeb" "given", kFa (.glo "BadWeb"), kEr1 "NoGood" "given", kFa (.glo "NoGood"), kEr1 "BadShare" "given", kFa (.glo "BadShare"), kEr1 "BadDeed" "given", kFa (.glo "BadDeed"), kEr1 "Short" "given", kFa (.glo "Short"), kFa (.free "range"), kFa (.free "repr")]
def ck1 : List Ck := [kFa (.free "bool"), kFa (.free "isinstance"), kFa (.glo "_law_same"), kEr1 "BadLine" "line", kFa (.glo "BadLine"), kFa (.exc "ByZero"), kFa (.glo "ByZero"), kFa (.exc "BadText"), kFa (.glo "BadText"), kFa (.exc "BadRange"), kFa (.glo "BadRange"), kFa (.exc "Lacking"), kFa (.glo "Lacking"), kFa (.exc "BadRoute"), kFa (.glo "BadRoute"), kFa (.exc "TooMuch"), kFa (.glo "TooMuch"), kFa (.exc "UnlikeFees"), kFa (.glo "UnlikeFees"), kFa (.exc "BadPrices"), kFa (.glo "BadPrices"), kFa (.exc "BadSplit"), kFa (.glo "BadSplit"), kFa (.exc "BadRing"), kFa (.glo "BadRing"), kFa (.exc "NothingToUndo"), kFa (.glo "NothingToUndo"), kFa (.exc "NothingToRedo"), kFa (.glo "NothingToRedo"), kFa (.glo "PoolError"), kFa (.free "ValueError"), kFa (.glo "_law_kinds"), kFa (.glo "_law_bases"), kFa (.glo "law"), kKit (.t "int") (.t "bool") false, kKit (.t "bool") (.t "bool") true, kKit (.t "NoneType") (.t "bool") false, kKit (.t "str") (.t "bool") false, kKit (.t "list") (.t "bool") false, kKit (.t "tuple") (.t "bool") false]
def ck2 : List Ck := [kKit (.t "dict") (.t "bool") false, kErs ["BadNumber", "BadSize", "BadRoot", "BadFee", "BadGood", "BadAmount", "NoWay", "BadName", "InUse", "NoPosition", "NoPool", "BadWeb", "NoGood", "BadShare", "BadDeed", "Short", "ByZero", "BadText", "BadRange", "Lacking", "BadRoute", "TooMuch", "UnlikeFees", "BadPrices", "BadSplit", "BadRing", "NothingToUndo", "NothingToRedo", "BadLine"] "PoolError"]
def cks : List Ck := ck0 ++ ck1 ++ ck2
def fns : List DefP := [dp_l_law, dp_l_box, dp_l_cell, dp_l_take, dp_BadNumber_init, dp_BadSize_init, dp_BadRoot_init, dp_BadFee_init, dp_BadGood_init, dp_BadAmount_init, dp_NoWay_init, dp_BadName_init, dp_InUse_init, dp_NoPosition_init, dp_NoPool_init, dp_BadWeb_init, dp_NoGood_init, dp_BadShare_init, dp_BadDeed_init, dp_Short_init, dp_l_same, dp_BadLine_init, dp_l_bases, dp_l_kinds]
abbrev R : PySem.W.OpenRow := PySem.W.OpenLaw.row PySem.Challenge.rw_rangepools_k01_errors
def asL : List PySem.Addr := [3, 6, 4, 24, 37, 49, 61, 73, 85, 97, 109, 121, 133, 145, 157, 169, 188, 207, 226, 245, 264, 283, 302, 321, 340, 359, 378, 397, 416, 435, 454, 473, 492, 501, 508, 515, 522, 527, 532, 539, 0, 23, 36, 48, 60, 72, 84, 96, 108, 120, 132, 144, 156, 168, 187, 206, 225, 244, 263, 282, 301, 320, 339, 358, 377, 396, 415, 434, 453, 472, 491, 500, 507, 514, 521, 526, 531, 538, 22, 25, 35, 47, 59, 71, 83, 95, 107, 119, 131, 143, 155, 167, 185, 186, 204, 205, 223, 224, 242, 243, 261, 262, 280, 281, 299, 300, 318, 319, 337, 338, 356, 357, 375, 376, 394, 395, 413, 414, 432, 433, 451, 452, 470, 471, 489, 490, 495, 496, 497, 498, 499, 502, 503, 504, 505, 506, 509, 510, 511, 512, 513, 516, 517, 518, 519, 520, 523, 524, 525, 528, 529, 530, 533, 534, 535, 536, 537, 184, 203, 222, 241, 260, 279, 298, 317, 336, 355, 374, 393, 412, 431, 450, 469, 488, 179, 180, 181, 182, 183, 198, 199, 200, 201, 202, 217, 218, 219, 220, 221, 236, 237, 238, 239, 240, 255, 256, 257, 258, 259, 274, 275, 276, 277, 278, 293, 294, 295, 296, 297, 312, 313, 314, 315, 316, 331, 332, 333, 334, 335, 350, 351, 352, 353, 354, 369, 370, 371, 372, 373, 388, 389, 390, 391, 392, 407, 408, 409, 410, 411, 426, 427, 428, 429, 430, 445, 446, 447, 448, 449, 464, 465, 466, 467, 468, 483, 484, 485, 486, 487]
abbrev hk : PySem.W.Hook := hookF asL cks fns
def lo0 : List PySem.Str := ["PoolError", "ByZero", "BadText", "BadRange", "Lacking", "BadRoute", "BadSplit", "BadRing", "TooMuch", "UnlikeFees", "BadPrices", "NothingToUndo", "NothingToRedo", "BadNumber", "BadSize", "BadRoot", "BadFee", "BadGood", "BadAmount", "NoWay"]
def lo1 : List PySem.Str := ["BadName", "InUse", "NoPosition", "NoPool", "BadWeb", "NoGood", "BadShare", "BadDeed", "Short", "BadLine", "_law_cell", "_law_box", "_law_take", "_law_same", "_law_kinds", "_law_bases"]
abbrev lo : List PySem.Str := lo0 ++ lo1
def ob (s : PySem.W.SharedT) : AlP := frK (HandSHeadRun.getT s) asL (obsP cks fns)
theorem ob_eq (s : PySem.W.SharedT) : ob s = hk.obs s.abs := hookF_eq (HandSHeadRun.getT_eq s)
end K01

set_option Elab.async false
set_option linter.all false
set_option maxRecDepth 100000
set_option maxHeartbeats 0
noncomputable section
namespace K01
namespace H
open PySem PySem.W PySem.Calls PyProof.Rows L2 LH HandSHeadRun
def zo0 (P : Params) : Obj := ⟨(.type "dict"), none, (.dict #[⟨(PyData.keyHash P (.ofString "__name__")), (.str (.ofString "__name__") 1), (.str (.ofString "builtins") 160)⟩, ⟨(PyData.keyHash P (.ofString "__doc__")), (.str (.ofString "__doc__") 2), (.builtin "builtins.__doc__:str#opaque")⟩, ⟨(PyData.keyHash P (.ofString "__package__")), (.str (.ofString "__package__") 3), (.builtin "builtins.__package__:str#opaque")⟩, ⟨(PyData.keyHash P (.ofString "__loader__")), (.str (.ofString "__loader__") 4), (.builtin "builtins.__loader__:shared#opaque")⟩, ⟨(PyData.keyHash P (.ofString "__spec__")), (.str (.ofString "__spec__") 5), (.builtin "builtins.__spec__#opaque")⟩, ⟨(PyData.keyHash P (.ofString "__build_class__")), (.str (.ofString "__build_class__") 6), (.builtin "__build_class__")⟩, ⟨(PyData.keyHash P (.ofString "__import__")), (.str (.ofString "__import__") 7), (.builtin "__import__")⟩, ⟨(PyData.keyHash P (.ofString "abs")), (.str (.ofString "abs") 8), (.builtin "abs")⟩, ⟨(PyData.keyHash P (.ofString "all")), (.str (.ofString "all") 9), (.builtin "all")⟩, ⟨(PyData.keyHash P (.ofString "any")), (.str (.ofString "any") 10), (.builtin "any")⟩, ⟨(PyData.keyHash P (.ofString "ascii")), (.str (.ofString "ascii") 11), (.builtin "ascii")⟩, ⟨(PyData.keyHash P (.ofString "bin")), (.str (.ofString "bin") 12), (.builtin "bin")⟩, ⟨(PyData.keyHash P (.ofString "breakpoint")), (.str (.ofString "breakpoint") 13), (.builtin "breakpoint")⟩, ⟨(PyData.keyHash P (.ofString "callable")), (.str (.ofString "callable") 14), (.builtin "callable")⟩, ⟨(PyData.keyHash P (.ofString "chr")), (.str (.ofString "chr") 15), (.builtin "chr")⟩, ⟨(PyData.keyHash P (.ofString "compile")), (.str (.ofString "compile") 16), (.builtin "compile")⟩, ⟨(PyData.keyHash P (.ofString "delattr")), (.str (.ofString "delattr") 17), (.builtin "delattr")⟩, ⟨(PyData.keyHash P (.ofString "dir")), (.str (.ofString "dir") 18), (.builtin "dir")⟩, ⟨(PyData.keyHash P (.ofString "divmod")), (.str (.ofString "divmod") 19), (.builtin "divmod")⟩, ⟨(PyData.keyHash P (.ofString "eval")), (.str (.ofString "eval") 20), (.builtin "eval")⟩, ⟨(PyData.keyHash P (.ofString "exec")), (.str (.ofString "exec") 21), (.builtin "exec")⟩, ⟨(PyData.keyHash P (.ofString "format")), (.str (.ofString "format") 22), (.builtin "format")⟩, ⟨(PyData.keyHash P (.ofString "getattr")), (.str (.ofString "getattr") 23), (.builtin "getattr")⟩, ⟨(PyData.keyHash P (.ofString "globals")), (.str (.ofString "globals") 24), (.builtin "globals")⟩, ⟨(PyData.keyHash P (.ofString "hasattr")), (.str (.ofString "hasattr") 25), (.builtin "hasattr")⟩, ⟨(PyData.keyHash P (.ofString "hash")), (.str (.ofString "hash") 26), (.builtin "hash")⟩, ⟨(PyData.keyHash P (.ofString "hex")), (.str (.ofString "hex") 27), (.builtin "hex")⟩, ⟨(PyData.keyHash P (.ofString "id")), (.str (.ofString "id") 28), (.builtin "id")⟩, ⟨(PyData.keyHash P (.ofString "input")), (.str (.ofString "input") 29), (.builtin "input")⟩, ⟨(PyData.keyHash P (.ofString "isinstance")), (.str (.ofString "isinstance") 30), (.builtin "isinstance")⟩, ⟨(PyData.keyHash P (.ofString "issubclass")), (.str (.ofString "issubclass") 31), (.builtin "issubclass")⟩, ⟨(PyData.keyHash P (.ofString "iter")), (.str (.ofString "iter") 32), (.builtin "iter")⟩, ⟨(PyData.keyHash P (.ofString "aiter")), (.str (.ofString "aiter") 33), (.builtin "aiter")⟩, ⟨(PyData.keyHash P (.ofString "len")), (.str (.ofString "len") 34), (.builtin "len")⟩, ⟨(PyData.keyHash P (.ofString "locals")), (.str (.ofString "locals") 35), (.builtin "locals")⟩, ⟨(PyData.keyHash P (.ofString "max")), (.str (.ofString "max") 36), (.builtin "max")⟩, ⟨(PyData.keyHash P (.ofString "min")), (.str (.ofString "min") 37), (.builtin "min")⟩, ⟨(PyData.keyHash P (.ofString "next")), (.str (.ofString "next") 38), (.builtin "next")⟩, ⟨(PyData.keyHash P (.ofString "anext")), (.str (.ofString "anext") 39), (.builtin "anext")⟩, ⟨(PyData.keyHash P (.ofString "oct")), (.str (.ofString "oct") 40), (.builtin "oct")⟩, ⟨(PyData.keyHash P (.ofString "ord")), (.str (.ofString "ord") 41), (.builtin "ord")⟩, ⟨(PyData.keyHash P (.ofString "pow")), (.str (.ofString "pow") 42), (.builtin "pow")⟩, ⟨(PyData.keyHash P (.ofString "print")), (.str (.ofString "print") 43), (.builtin "print")⟩, ⟨(PyData.keyHash P (.ofString "repr")), (.str (.ofString "repr") 44), (.builtin "repr")⟩, ⟨(PyData.keyHash P (.ofString "round")), (.str (.ofString "round") 45), (.builtin "round")⟩, ⟨(PyData.keyHash P (.ofString "setattr")), (.str (.ofString "setattr") 46), (.builtin "setattr")⟩, ⟨(PyData.keyHash P (.ofString "sorted")), (.str (.ofString "sorted") 47), (.builtin "sorted")⟩, ⟨(PyData.keyHash P (.ofString "sum")), (.str (.ofString "sum") 48), (.builtin "sum")⟩, ⟨(PyData.keyHash P (.ofString "vars")), (.str (.ofString "vars") 49), (.builtin "vars")⟩, ⟨(PyData.keyHash P (.ofString "None")), (.str (.ofString "None") 50), .none⟩, ⟨(PyData.keyHash P (.ofString "Ellipsis")), (.str (.ofString "Ellipsis") 51), .ellipsis⟩, ⟨(PyData.keyHash P (.ofString "NotImplemented")), (.str (.ofString "NotImplemented") 52), .notImplemented⟩, ⟨(PyData.keyHash P (.ofString "False")), (.str (.ofString "False") 53), (.bool false)⟩, ⟨(PyData.keyHash P (.ofString "True")), (.str (.ofString "True") 54), (.bool true)⟩, ⟨(PyData.keyHash P (.ofString "bool")), (.str (.ofString "bool") 55), (.type "bool")⟩, ⟨(PyData.keyHash P (.ofString "memoryview")), (.str (.ofString "memoryview") 56), (.type "memoryview")⟩, ⟨(PyData.keyHash P (.ofString "bytearray")), (.str (.ofString "bytearray") 57), (.type "bytearray")⟩, ⟨(PyData.keyHash P (.ofString "bytes")), (.str (.ofString "bytes") 58), (.type "bytes")⟩, ⟨(PyData.keyHash P (.ofString "classmethod")), (.str (.ofString "classmethod") 59), (.type "classmethod")⟩, ⟨(PyData.keyHash P (.ofString "complex")), (.str (.ofString "complex") 60), (.type "complex")⟩, ⟨(PyData.keyHash P (.ofString "dict")), (.str (.ofString "dict") 61), (.type "dict")⟩, ⟨(PyData.keyHash P (.ofString "enumerate")), (.str (.ofString "enumerate") 62), (.type "enumerate")⟩, ⟨(PyData.keyHash P (.ofString "filter")), (.str (.ofString "filter") 63), (.type "filter")⟩, ⟨(PyData.keyHash P (.ofString "float")), (.str (.ofString "float") 64), (.type "float")⟩, ⟨(PyData.keyHash P (.ofString "frozenset")), (.str (.ofString "frozenset") 65), (.type "frozenset")⟩, ⟨(PyData.keyHash P (.ofString "property")), (.str (.ofString "property") 66), (.type "property")⟩, ⟨(PyData.keyHash P (.ofString "int")), (.str (.ofString "int") 67), (.type "int")⟩, ⟨(PyData.keyHash P (.ofString "list")), (.str (.ofString "list") 68), (.type "list")⟩, ⟨(PyData.keyHash P (.ofString "map")), (.str (.ofString "map") 69), (.type "map")⟩, ⟨(PyData.keyHash P (.ofString "object")), (.str (.ofString "object") 70), (.type "object")⟩, ⟨(PyData.keyHash P (.ofString "range")), (.str (.ofString "range") 71), (.type "range")⟩, ⟨(PyData.keyHash P (.ofString "reversed")), (.str (.ofString "reversed") 72), (.type "reversed")⟩, ⟨(PyData.keyHash P (.ofString "set")), (.str (.ofString "set") 73), (.type "set")⟩, ⟨(PyData.keyHash P (.ofString "slice")), (.str (.ofString "slice") 74), (.type "slice")⟩, ⟨(PyData.keyHash P (.ofString "staticmethod")), (.str (.ofString "staticmethod") 75), (.type "staticmethod")⟩, ⟨(PyData.keyHash P (.ofString "str")), (.str (.ofString "str") 76), (.type "str")⟩, ⟨(PyData.keyHash P (.ofString "super")), (.str (.ofString "super") 77), (.type "super")⟩, ⟨(PyData.keyHash P (.ofString "tuple")), (.str (.ofString "tuple") 78), (.type "tuple")⟩, ⟨(PyData.keyHash P (.ofString "type")), (.str (.ofString "type") 79), (.type "type")⟩, ⟨(PyData.keyHash P (.ofString "zip")), (.str (.ofString "zip") 80), (.type "zip")⟩, ⟨(PyData.keyHash P (.ofString "__debug__")), (.str (.ofString "__debug__") 81), (.bool true)⟩, ⟨(PyData.keyHash P (.ofString "BaseException")), (.str (.ofString "BaseException") 82), (.type "BaseException")⟩, ⟨(PyData.keyHash P (.ofString "BaseExceptionGroup")), (.str (.ofString "BaseExceptionGroup") 83), (.type "BaseExceptionGroup")⟩, ⟨(PyData.keyHash P (.ofString "Exception")), (.str (.ofString "Exception") 84), (.type "Exception")⟩, ⟨(PyData.keyHash P (.ofString "GeneratorExit")), (.str (.ofString "GeneratorExit") 85), (.type "GeneratorExit")⟩, ⟨(PyData.keyHash P (.ofString "KeyboardInterrupt")), (.str (.ofString "KeyboardInterrupt") 86), (.type "KeyboardInterrupt")⟩, ⟨(PyData.keyHash P (.ofString "SystemExit")), (.str (.ofString "SystemExit") 87), (.type "SystemExit")⟩, ⟨(PyData.keyHash P (.ofString "ArithmeticError")), (.str (.ofString "ArithmeticError") 88), (.type "ArithmeticError")⟩, ⟨(PyData.keyHash P (.ofString "AssertionError")), (.str (.ofString "AssertionError") 89), (.type "AssertionError")⟩, ⟨(PyData.keyHash P (.ofString "AttributeError")), (.str (.ofString "AttributeError") 90), (.type "AttributeError")⟩, ⟨(PyData.keyHash P (.ofString "BufferError")), (.str (.ofString "BufferError") 91), (.type "BufferError")⟩, ⟨(PyData.keyHash P (.ofString "EOFError")), (.str (.ofString "EOFError") 92), (.type "EOFError")⟩, ⟨(PyData.keyHash P (.ofString "ImportError")), (.str (.ofString "ImportError") 93), (.type "ImportError")⟩, ⟨(PyData.keyHash P (.ofString "LookupError")), (.str (.ofString "LookupError") 94), (.type "LookupError")⟩, ⟨(PyData.keyHash P (.ofString "MemoryError")), (.str (.ofString "MemoryError") 95), (.type "MemoryError")⟩, ⟨(PyData.keyHash P (.ofString "NameError")), (.str (.ofString "NameError") 96), (.type "NameError")⟩, ⟨(PyData.keyHash P (.ofString "OSError")), (.str (.ofString "OSError") 97), (.type "OSError")⟩, ⟨(PyData.keyHash P (.ofString "ReferenceError")), (.str (.ofString "ReferenceError") 98), (.type "ReferenceError")⟩, ⟨(PyData.keyHash P (.ofString "RuntimeError")), (.str (.ofString "RuntimeError") 99), (.type "RuntimeError")⟩, ⟨(PyData.keyHash P (.ofString "StopAsyncIteration")), (.str (.ofString "StopAsyncIteration") 100), (.type "StopAsyncIteration")⟩, ⟨(PyData.keyHash P (.ofString "StopIteration")), (.str (.ofString "StopIteration") 101), (.type "StopIteration")⟩, ⟨(PyData.keyHash P (.ofString "SyntaxError")), (.str (.ofString "SyntaxError") 102), (.type "SyntaxError")⟩, ⟨(PyData.keyHash P (.ofString "SystemError")), (.str (.ofString "SystemError") 103), (.type "SystemError")⟩, ⟨(PyData.keyHash P (.ofString "TypeError")), (.str (.ofString "TypeError") 104), (.type "TypeError")⟩, ⟨(PyData.keyHash P (.ofString "ValueError")), (.str (.ofString "ValueError") 105), (.type "ValueError")⟩, ⟨(PyData.keyHash P (.ofString "Warning")), (.str (.ofString "Warning") 106), (.type "Warning")⟩, ⟨(PyData.keyHash P (.ofString "FloatingPointError")), (.str (.ofString "FloatingPointError") 107), (.type "FloatingPointError")⟩, ⟨(PyData.keyHash P (.ofString "OverflowError")), (.str (.ofString "OverflowError") 108), (.type "OverflowError")⟩, ⟨(PyData.keyHash P (.ofString "ZeroDivisionError")), (.str (.ofString "ZeroDivisionError") 109), (.type "ZeroDivisionError")⟩, ⟨(PyData.keyHash P (.ofString "BytesWarning")), (.str (.ofString "BytesWarning") 110), (.type "BytesWarning")⟩, ⟨(PyData.keyHash P (.ofString "DeprecationWarning")), (.str (.ofString "DeprecationWarning") 111), (.type "DeprecationWarning")⟩, ⟨(PyData.keyHash P (.ofString "EncodingWarning")), (.str (.ofString "EncodingWarning") 112), (.type "EncodingWarning")⟩, ⟨(PyData.keyHash P (.ofString "FutureWarning")), (.str (.ofString "FutureWarning") 113), (.type "FutureWarning")⟩, ⟨(PyData.keyHash P (.ofString "ImportWarning")), (.str (.ofString "ImportWarning") 114), (.type "ImportWarning")⟩, ⟨(PyData.keyHash P (.ofString "PendingDeprecationWarning")), (.str (.ofString "PendingDeprecationWarning") 115), (.type "PendingDeprecationWarning")⟩, ⟨(PyData.keyHash P (.ofString "ResourceWarning")), (.str (.ofString "ResourceWarning") 116), (.type "ResourceWarning")⟩, ⟨(PyData.keyHash P (.ofString "RuntimeWarning")), (.str (.ofString "RuntimeWarning") 117), (.type "RuntimeWarning")⟩, ⟨(PyData.keyHash P (.ofString "SyntaxWarning")), (.str (.ofString "SyntaxWarning") 118), (.type "SyntaxWarning")⟩, ⟨(PyData.keyHash P (.ofString "UnicodeWarning")), (.str (.ofString "UnicodeWarning") 119), (.type "UnicodeWarning")⟩, ⟨(PyData.keyHash P (.ofString "UserWarning")), (.str (.ofString "UserWarning") 120), (.type "UserWarning")⟩, ⟨(PyData.keyHash P (.ofString "BlockingIOError")), (.str (.ofString "BlockingIOError") 121), (.type "BlockingIOError")⟩, ⟨(PyData.keyHash P (.ofString "ChildProcessError")), (.str (.ofString "ChildProcessError") 122), (.type "ChildProcessError")⟩, ⟨(PyData.keyHash P (.ofString "ConnectionError")), (.str (.ofString "ConnectionError") 123), (.type "ConnectionError")⟩, ⟨(PyData.keyHash P (.ofString "FileExistsError")), (.str (.ofString "FileExistsError") 124), (.type "FileExistsError")⟩, ⟨(PyData.keyHash P (.ofString "FileNotFoundError")), (.str (.ofString "FileNotFoundError") 125), (.type "FileNotFoundError")⟩, ⟨(PyData.keyHash P (.ofString "InterruptedError")), (.str (.ofString "InterruptedError") 126), (.type "InterruptedError")⟩, ⟨(PyData.keyHash P (.ofString "IsADirectoryError")), (.str (.ofString "IsADirectoryError") 127), (.type "IsADirectoryError")⟩, ⟨(PyData.keyHash P (.ofString "NotADirectoryError")), (.str (.ofString "NotADirectoryError") 128), (.type "NotADirectoryError")⟩, ⟨(PyData.keyHash P (.ofString "PermissionError")), (.str (.ofString "PermissionError") 129), (.type "PermissionError")⟩, ⟨(PyData.keyHash P (.ofString "ProcessLookupError")), (.str (.ofString "ProcessLookupError") 130), (.type "ProcessLookupError")⟩, ⟨(PyData.keyHash P (.ofString "TimeoutError")), (.str (.ofString "TimeoutError") 131), (.type "TimeoutError")⟩, ⟨(PyData.keyHash P (.ofString "IndentationError")), (.str (.ofString "IndentationError") 132), (.type "IndentationError")⟩, ⟨(PyData.keyHash P (.ofString "_IncompleteInputError")), (.str (.ofString "_IncompleteInputError") 133), (.type "_IncompleteInputError")⟩, ⟨(PyData.keyHash P (.ofString "IndexError")), (.str (.ofString "IndexError") 134), (.type "IndexError")⟩, ⟨(PyData.keyHash P (.ofString "KeyError")), (.str (.ofString "KeyError") 135), (.type "KeyError")⟩, ⟨(PyData.keyHash P (.ofString "ModuleNotFoundError")), (.str (.ofString "ModuleNotFoundError") 136), (.type "ModuleNotFoundError")⟩, ⟨(PyData.keyHash P (.ofString "NotImplementedError")), (.str (.ofString "NotImplementedError") 137), (.type "NotImplementedError")⟩, ⟨(PyData.keyHash P (.ofString "PythonFinalizationError")), (.str (.ofString "PythonFinalizationError") 138), (.type "PythonFinalizationError")⟩, ⟨(PyData.keyHash P (.ofString "RecursionError")), (.str (.ofString "RecursionError") 139), (.type "RecursionError")⟩, ⟨(PyData.keyHash P (.ofString "UnboundLocalError")), (.str (.ofString "UnboundLocalError") 140), (.type "UnboundLocalError")⟩, ⟨(PyData.keyHash P (.ofString "UnicodeError")), (.str (.ofString "UnicodeError") 141), (.type "UnicodeError")⟩, ⟨(PyData.keyHash P (.ofString "BrokenPipeError")), (.str (.ofString "BrokenPipeError") 142), (.type "BrokenPipeError")⟩, ⟨(PyData.keyHash P (.ofString "ConnectionAbortedError")), (.str (.ofString "ConnectionAbortedError") 143), (.type "ConnectionAbortedError")⟩, ⟨(PyData.keyHash P (.ofString "ConnectionRefusedError")), (.str (.ofString "ConnectionRefusedError") 144), (.type "ConnectionRefusedError")⟩, ⟨(PyData.keyHash P (.ofString "ConnectionResetError")), (.str (.ofString "ConnectionResetError") 145), (.type "ConnectionResetError")⟩, ⟨(PyData.keyHash P (.ofString "TabError")), (.str (.ofString "TabError") 146), (.type "TabError")⟩, ⟨(PyData.keyHash P (.ofString "UnicodeDecodeError")), (.str (.ofString "UnicodeDecodeError") 147), (.type "UnicodeDecodeError")⟩, ⟨(PyData.keyHash P (.ofString "UnicodeEncodeError")), (.str (.ofString "UnicodeEncodeError") 148), (.type "UnicodeEncodeError")⟩, ⟨(PyData.keyHash P (.ofString "UnicodeTranslateError")), (.str (.ofString "UnicodeTranslateError") 149), (.type "UnicodeTranslateError")⟩, ⟨(PyData.keyHash P (.ofString "ExceptionGroup")), (.str (.ofString "ExceptionGroup") 150), (.type "ExceptionGroup")⟩, ⟨(PyData.keyHash P (.ofString "EnvironmentError")), (.str (.ofString "EnvironmentError") 151), (.type "OSError")⟩, ⟨(PyData.keyHash P (.ofString "IOError")), (.str (.ofString "IOError") 152), (.type "OSError")⟩, ⟨(PyData.keyHash P (.ofString "open")), (.str (.ofString "open") 153), (.builtin "open")⟩, ⟨(PyData.keyHash P (.ofString "quit")), (.str (.ofString "quit") 154), (.builtin "builtins.quit#opaque")⟩, ⟨(PyData.keyHash P (.ofString "exit")), (.str (.ofString "exit") 155), (.builtin "builtins.exit#opaque")⟩, ⟨(PyData.keyHash P (.ofString "copyright")), (.str (.ofString "copyright") 156), (.builtin "builtins.copyright#opaque")⟩, ⟨(PyData.keyHash P (.ofString "credits")), (.str (.ofString "credits") 157), (.builtin "builtins.credits#opaque")⟩, ⟨(PyData.keyHash P (.ofString "license")), (.str (.ofString "license") 158), (.builtin "builtins.license#opaque")⟩, ⟨(PyData.keyHash P (.ofString "help")), (.str (.ofString "help") 159), (.builtin "builtins.help#opaque")⟩] 159), #[]⟩
def zo1 (P : Params) : Obj := ⟨(.type "dict"), none, (.dict #[⟨(PyData.keyHash P (.ofString "builtins")), (.str (.ofString "builtins") 162), (.ref 4)⟩, ⟨(PyData.keyHash P (.ofString "__main__")), (.str (.ofString "__main__") 163), (.ref 5)⟩] 2), #[]⟩
def zo2 : Obj := ⟨.none, none, (.dict #[] 0), #[]⟩
def zo3 (P : Params) : Obj := ⟨(.type "dict"), none, (.dict #[⟨(PyData.keyHash P (.ofString "__name__")), (.str (.ofString "__name__") 165), (.str (.ofString "__main__") 164)⟩, ⟨(PyData.keyHash P (.ofString "__doc__")), (.str (.ofString "__doc__") 166), .none⟩, ⟨(PyData.keyHash P (.ofString "__package__")), (.str (.ofString "__package__") 167), .none⟩, ⟨(PyData.keyHash P (.ofString "__loader__")), (.str (.ofString "__loader__") 168), (.builtin "__main__.__loader__#opaque")⟩, ⟨(PyData.keyHash P (.ofString "__spec__")), (.str (.ofString "__spec__") 169), .none⟩, ⟨(PyData.keyHash P (.ofString "__annotations__")), (.str (.ofString "__annotations__") 170), (.ref 6)⟩, ⟨(PyData.keyHash P (.ofString "__builtins__")), (.str (.ofString "__builtins__") 171), (.ref 4)⟩, ⟨(PyData.keyHash P (.ofString "__file__")), (.str (.ofString "__file__") 173), (.str (.ofString "/claim/cut.py") 172)⟩, ⟨(PyData.keyHash P (.ofString "__cached__")), (.str (.ofString "__cached__") 174), .none⟩] 9), #[]⟩
def zo4 : Obj := ⟨(.type "module"), (some 0), .plain, #[]⟩
def zo5 : Obj := ⟨(.type "module"), (some 3), .plain, #[]⟩
def zo6 : Obj := ⟨(.type "dict"), none, (.dict #[] 0), #[]⟩
def zo7 : Obj := ⟨(.type "tuple"), none, (.seq #[] 0), #[]⟩
def zo8 : Obj := ⟨.none, none, (.fields #[]), #[]⟩
def zo9 : Obj := ⟨(.type "code"), none, (.fields #[(.str (.ofString "<module>") 176), (.str (.ofString "<module>") 177), (.str (.ofString "/claim/cut.py") 178), (.int (1) 0), (.int (0) 0), (.int (0) 0), (.int (0) 0), (.int (0) 0), (.ref 7), (.bool false), (.int (175) 0), (.ref 8), .none, .none, .none, .none, (.int (179) 0), (.int (1) 0), (.str (.ofString "/claim/cut.py") 180)]), #[]⟩
def zo10 : Obj := ⟨(.type "frame"), none, .plain, #[(some (.ref 9)), (some (.ref 3)), (some (.ref 3)), none, (some (.str (.ofString "__main__") 164)), none, (some (.ref 0))]⟩
def zT (P : Params) : BT := (.node (zo0 P) (.node (zo1 P) (.node (zo3 P) (.node zo7 .nil .nil) .nil) (.node zo5 (.node zo9 .nil .nil) .nil)) (.node zo2 (.node zo4 (.node zo8 .nil .nil) .nil) (.node zo6 (.node zo10 .nil .nil) .nil)))
def z : LH.St := ⟨zT, 11, #[], ⟨0, 0, 0, 0⟩, 181⟩
def ao11 : Obj := ⟨(.type "tuple"), none, (.seq #[] 0), #[]⟩
def ao12 : Obj := ⟨.none, none, (.fields #[]), #[]⟩
def ao13 : Obj := ⟨(.type "code"), none, (.fields #[(.str (.ofString "<module>") 182), (.str (.ofString "<module>") 183), (.str (.ofString "/claim/cut.py") 184), (.int (1) 0), (.int (0) 0), (.int (0) 0), (.int (0) 0), (.int (0) 0), (.ref 11), (.bool false), (.int (181) 0), (.ref 12), .none, .none, .none, .none, (.int (185) 0), (.int (1) 0), (.str (.ofString "/claim/cut.py") 186)]), #[]⟩
def ao14 : Obj := ⟨(.type "frame"), none, .plain, #[(some (.ref 13)), (some (.ref 3)), (some (.ref 3)), none, (some (.str (.ofString "__main__") 164)), none, (some (.ref 0))]⟩
def aT (P : Params) : BT := (.node (zo0 P) (.node (zo1 P) (.node (zo3 P) (.node zo7 .nil .nil) (.node ao11 .nil .nil)) (.node zo5 (.node zo9 .nil .nil) (.node ao13 .nil .nil))) (.node zo2 (.node zo4 (.node zo8 .nil .nil) (.node ao12 .nil .nil)) (.node zo6 (.node zo10 .nil .nil) (.node ao14 .nil .nil))))
def a : LH.St := ⟨aT, 15, #[], ⟨0, 0, 0, 0⟩, 187⟩
def bT (P : Params) : BT := (.node (zo0 P) (.node (zo1 P) (.node (zo3 P) (.node zo7 .nil .nil) (.node ao11 .nil .nil)) (.node zo5 (.node zo9 .nil .nil) (.node ao13 .nil .nil))) (.node zo2 (.node zo4 (.node zo8 .nil .nil) (.node ao12 .nil .nil)) (.node zo6 (.node zo10 .nil .nil) (.node ao14 .nil .nil))))
def b : LH.St := ⟨bT, 15, #[], ⟨0, 0, 0, 0⟩, 187⟩
def s0o3 (P : Params) : Obj := ⟨(.type "dict"), none, (.dict #[⟨(PyData.keyHash P (.ofString "__name__")), (.str (.ofString "__name__") 165), (.str (.ofString "rangepools.errors") 187)⟩, ⟨(PyData.keyHash P (.ofString "__doc__")), (.str (.ofString "__doc__") 166), .none⟩, ⟨(PyData.keyHash P (.ofString "__package__")), (.str (.ofString "__package__") 167), .none⟩, ⟨(PyData.keyHash P (.ofString "__loader__")), (.str (.ofString "__loader__") 168), (.builtin "__main__.__loader__#opaque")⟩, ⟨(PyData.keyHash P (.ofString "__spec__")), (.str (.ofString "__spec__") 169), .none⟩, ⟨(PyData.keyHash P (.ofString "__annotations__")), (.str (.ofString "__annotations__") 170), (.ref 6)⟩, ⟨(PyData.keyHash P (.ofString "__builtins__")), (.str (.ofString "__builtins__") 171), (.ref 4)⟩, ⟨(PyData.keyHash P (.ofString "__file__")), (.str (.ofString "__file__") 173), (.str (.ofString "/claim/cut.py") 172)⟩, ⟨(PyData.keyHash P (.ofString "__cached__")), (.str (.ofString "__cached__") 174), .none⟩, ⟨(PyData.keyHash P (.ofString "PoolError")), (.str (.ofString "PoolError") 206), (.ref 24)⟩, ⟨(PyData.keyHash P (.ofString "ByZero")), (.str (.ofString "ByZero") 222), (.ref 37)⟩, ⟨(PyData.keyHash P (.ofString "BadText")), (.str (.ofString "BadText") 238), (.ref 49)⟩, ⟨(PyData.keyHash P (.ofString "BadRange")), (.str (.ofString "BadRange") 254), (.ref 61)⟩] 13), #[]⟩
def s0o12 : Obj := ⟨.none, none, (.fields #[(.int (2) 0), (.int (0) 0), (.ref 20), (.int (4) 0), (.int (0) 0), (.ref 33), (.int (6) 0), (.int (0) 0), (.ref 45), (.int (8) 0), (.int (0) 0), (.ref 57)]), #[]⟩
def s0o15 : Obj := ⟨(.type "tuple"), none, (.seq #[(.type "ValueError")] 0), #[]⟩
def s0o16 : Obj := ⟨(.type "builtin_function_or_method"), none, (.fields #[(.builtin "type.__prepare__"), (.type "type")]), #[]⟩
def s0o17 (P : Params) : Obj := ⟨(.type "dict"), none, (.dict #[⟨(PyData.keyHash P (.ofString "__module__")), (.str (.ofString "__module__") 196), (.str (.ofString "rangepools.errors") 187)⟩, ⟨(PyData.keyHash P (.ofString "__qualname__")), (.str (.ofString "__qualname__") 198), (.str (.ofString "PoolError") 197)⟩, ⟨(PyData.keyHash P (.ofString "__firstlineno__")), (.str (.ofString "__firstlineno__") 200), (.int (2) 199)⟩, ⟨(PyData.keyHash P (.ofString "__static_attributes__")), (.str (.ofString "__static_attributes__") 201), (.ref 22)⟩] 4), #[]⟩
def s0o18 : Obj := ⟨(.type "tuple"), none, (.seq #[] 0), #[]⟩
def s0o19 : Obj := ⟨.none, none, (.fields #[]), #[]⟩
def s0o20 : Obj := ⟨(.type "code"), none, (.fields #[(.str (.ofString "PoolError") 191), (.str (.ofString "PoolError") 192), (.str (.ofString "/claim/cut.py") 193), (.int (2) 0), (.int (0) 0), (.int (0) 0), (.int (0) 0), (.int (0) 0), (.ref 18), (.bool false), (.int (181) 0), (.ref 19), .none, .none, .none, .none, (.int (194) 0), (.int (2) 0), (.str (.ofString "/claim/cut.py") 195)]), #[]⟩
def s0o21 : Obj := ⟨(.type "frame"), none, .plain, #[(some (.ref 20)), (some (.ref 3)), (some (.ref 17)), none, (some (.str (.ofString "rangepools.errors") 187)), none, (some (.ref 0))]⟩
def s0o22 : Obj := ⟨(.type "tuple"), none, (.seq #[] 0), #[]⟩
def s0o23 (P : Params) : Obj := ⟨(.type "dict"), none, (.dict #[⟨(PyData.keyHash P (.ofString "__module__")), (.str (.ofString "__module__") 196), (.str (.ofString "rangepools.errors") 187)⟩, ⟨(PyData.keyHash P (.ofString "__firstlineno__")), (.str (.ofString "__firstlineno__") 200), (.int (2) 199)⟩, ⟨(PyData.keyHash P (.ofString "__static_attributes__")), (.str (.ofString "__static_attributes__") 201), (.ref 22)⟩, ⟨(PyData.keyHash P (.ofString "__weakref__")), (.str (.ofString "__weakref__") 203), (.ref 25)⟩, ⟨(PyData.keyHash P (.ofString "__doc__")), (.str (.ofString "__doc__") 204), .none⟩] 3), #[]⟩
def s0o24 : Obj := ⟨(.type "type"), none, (.cls ⟨(.ofString "PoolError"), [(.type "ValueError")], [(.ref 24), (.type "ValueError"), (.type "Exception"), (.type "BaseException"), (.type "object")], 23, (.ofString "PoolError"), true, [], [(.ref 37), (.ref 49), (.ref 61)], false, none, false⟩), #[(some (.ref 15)), none, (some (.str (.ofString "PoolError") 189)), (some (.str (.ofString "PoolError") 197)), (some (.builtin "ValueError.__new__")), (some (.bool true))]⟩
def s0o25 : Obj := ⟨(.type "getset_descriptor"), none, (.fields #[(.str (.ofString "__weakref__") 202), (.ref 24), (.builtin "ExceptionGroup.__weakref__"), .none]), #[]⟩
def s0o26 : Obj := ⟨(.type "super"), none, (.fields #[(.ref 24), (.ref 24), (.ref 24)]), #[]⟩
def s0o27 : Obj := ⟨(.type "builtin_function_or_method"), none, (.fields #[(.builtin "object.__init_subclass__"), (.ref 24)]), #[]⟩
def s0o28 : Obj := ⟨(.type "tuple"), none, (.seq #[(.ref 24)] 0), #[]⟩
def s0o29 : Obj := ⟨(.type "builtin_function_or_method"), none, (.fields #[(.builtin "type.__prepare__"), (.type "type")]), #[]⟩
def s0o30 (P : Params) : Obj := ⟨(.type "dict"), none, (.dict #[⟨(PyData.keyHash P (.ofString "__module__")), (.str (.ofString "__module__") 214), (.str (.ofString "rangepools.errors") 187)⟩, ⟨(PyData.keyHash P (.ofString "__qualname__")), (.str (.ofString "__qualname__") 216), (.str (.ofString "ByZero") 215)⟩, ⟨(PyData.keyHash P (.ofString "__firstlineno__")), (.str (.ofString "__firstlineno__") 218), (.int (4) 217)⟩, ⟨(PyData.keyHash P (.ofString "__static_attributes__")), (.str (.ofString "__static_attributes__") 219), (.ref 35)⟩] 4), #[]⟩
def s0o31 : Obj := ⟨(.type "tuple"), none, (.seq #[] 0), #[]⟩
def s0o32 : Obj := ⟨.none, none, (.fields #[]), #[]⟩
def s0o33 : Obj := ⟨(.type "code"), none, (.fields #[(.str (.ofString "ByZero") 209), (.str (.ofString "ByZero") 210), (.str (.ofString "/claim/cut.py") 211), (.int (4) 0), (.int (0) 0), (.int (0) 0), (.int (0) 0), (.int (0) 0), (.ref 31), (.bool false), (.int (181) 0), (.ref 32), .none, .none, .none, .none, (.int (212) 0), (.int (4) 0), (.str (.ofString "/claim/cut.py") 213)]), #[]⟩
def s0o34 : Obj := ⟨(.type "frame"), none, .plain, #[(some (.ref 33)), (some (.ref 3)), (some (.ref 30)), none, (some (.str (.ofString "rangepools.errors") 187)), none, (some (.ref 0))]⟩
def s0o35 : Obj := ⟨(.type "tuple"), none, (.seq #[] 0), #[]⟩
def s0o36 (P : Params) : Obj := ⟨(.type "dict"), none, (.dict #[⟨(PyData.keyHash P (.ofString "__module__")), (.str (.ofString "__module__") 214), (.str (.ofString "rangepools.errors") 187)⟩, ⟨(PyData.keyHash P (.ofString "__firstlineno__")), (.str (.ofString "__firstlineno__") 218), (.int (4) 217)⟩, ⟨(PyData.keyHash P (.ofString "__static_attributes__")), (.str (.ofString "__static_attributes__") 219), (.ref 35)⟩, ⟨(PyData.keyHash P (.ofString "__doc__")), (.str (.ofString "__doc__") 220), .none⟩] 2), #[]⟩
def s0o37 : Obj := ⟨(.type "type"), none, (.cls ⟨(.ofString "ByZero"), [(.ref 24)], [(.ref 37), (.ref 24), (.type "ValueError"), (.type "Exception"), (.type "BaseException"), (.type "object")], 36, (.ofString "ByZero"), true, [], [], false, none, false⟩), #[(some (.ref 28)), none, (some (.str (.ofString "ByZero") 207)), (some (.str (.ofString "ByZero") 215)), (some (.builtin "ValueError.__new__")), (some (.bool true))]⟩
def s0o38 : Obj := ⟨(.type "super"), none, (.fields #[(.ref 37), (.ref 37), (.ref 37)]), #[]⟩
def s0o39 : Obj := ⟨(.type "builtin_function_or_method"), none, (.fields #[(.builtin "object.__init_subclass__"), (.ref 37)]), #[]⟩
def s0o40 : Obj := ⟨(.type "tuple"), none, (.seq #[(.ref 24)] 0), #[]⟩
def s0o41 : Obj := ⟨(.type "builtin_function_or_method"), none, (.fields #[(.builtin "type.__prepare__"), (.type "type")]), #[]⟩
def s0o42 (P : Params) : Obj := ⟨(.type "dict"), none, (.dict #[⟨(PyData.keyHash P (.ofString "__module__")), (.str (.ofString "__module__") 230), (.str (.ofString "rangepools.errors") 187)⟩, ⟨(PyData.keyHash P (.ofString "__qualname__")), (.str (.ofString "__qualname__") 232), (.str (.ofString "BadText") 231)⟩, ⟨(PyData.keyHash P (.ofString "__firstlineno__")), (.str (.ofString "__firstlineno__") 234), (.int (6) 233)⟩, ⟨(PyData.keyHash P (.ofString "__static_attributes__")), (.str (.ofString "__static_attributes__") 235), (.ref 47)⟩] 4), #[]⟩
def s0o43 : Obj := ⟨(.type "tuple"), none, (.seq #[] 0), #[]⟩
def s0o44 : Obj := ⟨.none, none, (.fields #[]), #[]⟩
def s0o45 : Obj := ⟨(.type "code"), none, (.fields #[(.str (.ofString "BadText") 225), (.str (.ofString "BadText") 226), (.str (.ofString "/claim/cut.py") 227), (.int (6) 0), (.int (0) 0), (.int (0) 0), (.int (0) 0), (.int (0) 0), (.ref 43), (.bool false), (.int (181) 0), (.ref 44), .none, .none, .none, .none, (.int (228) 0), (.int (6) 0), (.str (.ofString "/claim/cut.py") 229)]), #[]⟩
def s0o46 : Obj := ⟨(.type "frame"), none, .plain, #[(some (.ref 45)), (some (.ref 3)), (some (.ref 42)), none, (some (.str (.ofString "rangepools.errors") 187)), none, (some (.ref 0))]⟩
def s0o47 : Obj := ⟨(.type "tuple"), none, (.seq #[] 0), #[]⟩
def s0o48 (P : Params) : Obj := ⟨(.type "dict"), none, (.dict #[⟨(PyData.keyHash P (.ofString "__module__")), (.str (.ofString "__module__") 230), (.str (.ofString "rangepools.errors") 187)⟩, ⟨(PyData.keyHash P (.ofString "__firstlineno__")), (.str (.ofString "__firstlineno__") 234), (.int (6) 233)⟩, ⟨(PyData.keyHash P (.ofString "__static_attributes__")), (.str (.ofString "__static_attributes__") 235), (.ref 47)⟩, ⟨(PyData.keyHash P (.ofString "__doc__")), (.str (.ofString "__doc__") 236), .none⟩] 2), #[]⟩
def s0o49 : Obj := ⟨(.type "type"), none, (.cls ⟨(.ofString "BadText"), [(.ref 24)], [(.ref 49), (.ref 24), (.type "ValueError"), (.type "Exception"), (.type "BaseException"), (.type "object")], 48, (.ofString "BadText"), true, [], [], false, none, false⟩), #[(some (.ref 40)), none, (some (.str (.ofString "BadText") 223)), (some (.str (.ofString "BadText") 231)), (some (.builtin "ValueError.__new__")), (some (.bool true))]⟩
def s0o50 : Obj := ⟨(.type "super"), none, (.fields #[(.ref 49), (.ref 49), (.ref 49)]), #[]⟩
def s0o51 : Obj := ⟨(.type "builtin_function_or_method"), none, (.fields #[(.builtin "object.__init_subclass__"), (.ref 49)]), #[]⟩
def s0o52 : Obj := ⟨(.type "tuple"), none, (.seq #[(.ref 24)] 0), #[]⟩
def s0o53 : Obj := ⟨(.type "builtin_function_or_method"), none, (.fields #[(.builtin "type.__prepare__"), (.type "type")]), #[]⟩
def s0o54 (P : Params) : Obj := ⟨(.type "dict"), none, (.dict #[⟨(PyData.keyHash P (.ofString "__module__")), (.str (.ofString "__module__") 246), (.str (.ofString "rangepools.errors") 187)⟩, ⟨(PyData.keyHash P (.ofString "__qualname__")), (.str (.ofString "__qualname__") 248), (.str (.ofString "BadRange") 247)⟩, ⟨(PyData.keyHash P (.ofString "__firstlineno__")), (.str (.ofString "__firstlineno__") 250), (.int (8) 249)⟩, ⟨(PyData.keyHash P (.ofString "__static_attributes__")), (.str (.ofString "__static_attributes__") 251), (.ref 59)⟩] 4), #[]⟩
def s0o55 : Obj := ⟨(.type "tuple"), none, (.seq #[] 0), #[]⟩
def s0o56 : Obj := ⟨.none, none, (.fields #[]), #[]⟩
def s0o57 : Obj := ⟨(.type "code"), none, (.fields #[(.str (.ofString "BadRange") 241), (.str (.ofString "BadRange") 242), (.str (.ofString "/claim/cut.py") 243), (.int (8) 0), (.int (0) 0), (.int (0) 0), (.int (0) 0), (.int (0) 0), (.ref 55), (.bool false), (.int (181) 0), (.ref 56), .none, .none, .none, .none, (.int (244) 0), (.int (8) 0), (.str (.ofString "/claim/cut.py") 245)]), #[]⟩
def s0o58 : Obj := ⟨(.type "frame"), none, .plain, #[(some (.ref 57)), (some (.ref 3)), (some (.ref 54)), none, (some (.str (.ofString "rangepools.errors") 187)), none, (some (.ref 0))]⟩
def s0o59 : Obj := ⟨(.type "tuple"), none, (.seq #[] 0), #[]⟩
def s0o60 (P : Params) : Obj := ⟨(.type "dict"), none, (.dict #[⟨(PyData.keyHash P (.ofString "__module__")), (.str (.ofString "__module__") 246), (.str (.ofString "rangepools.errors") 187)⟩, ⟨(PyData.keyHash P (.ofString "__firstlineno__")), (.str (.ofString "__firstlineno__") 250), (.int (8) 249)⟩, ⟨(PyData.keyHash P (.ofString "__static_attributes__")), (.str (.ofString "__static_attributes__") 251), (.ref 59)⟩, ⟨(PyData.keyHash P (.ofString "__doc__")), (.str (.ofString "__doc__") 252), .none⟩] 2), #[]⟩
def s0o61 : Obj := ⟨(.type "type"), none, (.cls ⟨(.ofString "BadRange"), [(.ref 24)], [(.ref 61), (.ref 24), (.type "ValueError"), (.type "Exception"), (.type "BaseException"), (.type "object")], 60, (.ofString "BadRange"), true, [], [], false, none, false⟩), #[(some (.ref 52)), none, (some (.str (.ofString "BadRange") 239)), (some (.str (.ofString "BadRange") 247)), (some (.builtin "ValueError.__new__")), (some (.bool true))]⟩
def s0o62 : Obj := ⟨(.type "super"), none, (.fields #[(.ref 61), (.ref 61), (.ref 61)]), #[]⟩
def s0o63 : Obj := ⟨(.type "builtin_function_or_method"), none, (.fields #[(.builtin "object.__init_subclass__"), (.ref 61)]), #[]⟩
def s0T (P : Params) : BT := (.node (zo0 P) (.node (zo1 P) (.node (s0o3 P) (.node zo7 (.node s0o15 (.node s0o31 (.node s0o63 .nil .nil) .nil) (.node s0o47 .nil .nil)) (.node (s0o23 P) (.node s0o39 .nil .nil) (.node s0o55 .nil .nil))) (.node ao11 (.node s0o19 (.node s0o35 .nil .nil) (.node s0o51 .nil .nil)) (.node s0o27 (.node s0o43 .nil .nil) (.node s0o59 .nil .nil)))) (.node zo5 (.node zo9 (.node (s0o17 P) (.node s0o33 .nil .nil) (.node s0o49 .nil .nil)) (.node s0o25 (.node s0o41 .nil .nil) (.node s0o57 .nil .nil))) (.node ao13 (.node s0o21 (.node s0o37 .nil .nil) (.node s0o53 .nil .nil)) (.node s0o29 (.node s0o45 .nil .nil) (.node s0o61 .nil .nil))))) (.node zo2 (.node zo4 (.node zo8 (.node s0o16 (.node s0o32 .nil .nil) (.node (s0o48 P) .nil .nil)) (.node s0o24 (.node s0o40 .nil .nil) (.node s0o56 .nil .nil))) (.node s0o12 (.node s0o20 (.node (s0o36 P) .nil .nil) (.node s0o52 .nil .nil)) (.node s0o28 (.node s0o44 .nil .nil) (.node (s0o60 P) .nil .nil)))) (.node zo6 (.node zo10 (.node s0o18 (.node s0o34 .nil .nil) (.node s0o50 .nil .nil)) (.node s0o26 (.node (s0o42 P) .nil .nil) (.node s0o58 .nil .nil))) (.node ao14 (.node s0o22 (.node s0o38 .nil .nil) (.node (s0o54 P) .nil .nil)) (.node (s0o30 P) (.node s0o46 .nil .nil) (.node s0o62 .nil .nil))))))
def s0 : LH.St := ⟨s0T, 64, #[], ⟨0, 0, 0, 0⟩, 255⟩
def s1o3 (P : Params) : Obj := ⟨(.type "dict"), none, (.dict #[⟨(PyData.keyHash P (.ofString "__name__")), (.str (.ofString "__name__") 165), (.str (.ofString "rangepools.errors") 187)⟩, ⟨(PyData.keyHash P (.ofString "__doc__")), (.str (.ofString "__doc__") 166), .none⟩, ⟨(PyData.keyHash P (.ofString "__package__")), (.str (.ofString "__package__") 167), .none⟩, ⟨(PyData.keyHash P (.ofString "__loader__")), (.str (.ofString "__loader__") 168), (.builtin "__main__.__loader__#opaque")⟩, ⟨(PyData.keyHash P (.ofString "__spec__")), (.str (.ofString "__spec__") 169), .none⟩, ⟨(PyData.keyHash P (.ofString "__annotations__")), (.str (.ofString "__annotations__") 170), (.ref 6)⟩, ⟨(PyData.keyHash P (.ofString "__builtins__")), (.str (.ofString "__builtins__") 171), (.ref 4)⟩, ⟨(PyData.keyHash P (.ofString "__file__")), (.str (.ofString "__file__") 173), (.str (.ofString "/claim/cut.py") 172)⟩, ⟨(PyData.keyHash P (.ofString "__cached__")), (.str (.ofString "__cached__") 174), .none⟩, ⟨(PyData.keyHash P (.ofString "PoolError")), (.str (.ofString "PoolError") 206), (.ref 24)⟩, ⟨(PyData.keyHash P (.ofString "ByZero")), (.str (.ofString "ByZero") 222), (.ref 37)⟩, ⟨(PyData.keyHash P (.ofString "BadText")), (.str (.ofString "BadText") 238), (.ref 49)⟩, ⟨(PyData.keyHash P (.ofString "BadRange")), (.str (.ofString "BadRange") 254), (.ref 61)⟩, ⟨(PyData.keyHash P (.ofString "Lacking")), (.str (.ofString "Lacking") 270), (.ref 73)⟩, ⟨(PyData.keyHash P (.ofString "BadRoute")), (.str (.ofString "BadRoute") 286), (.ref 85)⟩, ⟨(PyData.keyHash P (.ofString "BadSplit")), (.str (.ofString "BadSplit") 302), (.ref 97)⟩, ⟨(PyData.keyHash P (.ofString "BadRing")), (.str (.ofString "BadRing") 318), (.ref 109)⟩] 17), #[]⟩
def s1o12 : Obj := ⟨.none, none, (.fields #[(.int (2) 0), (.int (0) 0), (.ref 20), (.int (4) 0), (.int (0) 0), (.ref 33), (.int (6) 0), (.int (0) 0), (.ref 45), (.int (8) 0), (.int (0) 0), (.ref 57), (.int (10) 0), (.int (0) 0), (.ref 69), (.int (12) 0), (.int (0) 0), (.ref 81), (.int (14) 0), (.int (0) 0), (.ref 93), (.int (16) 0), (.int (0) 0), (.ref 105)]), #[]⟩
def s1o24 : Obj := ⟨(.type "type"), none, (.cls ⟨(.ofString "PoolError"), [(.type "ValueError")], [(.ref 24), (.type "ValueError"), (.type "Exception"), (.type "BaseException"), (.type "object")], 23, (.ofString "PoolError"), true, [], [(.ref 37), (.ref 49), (.ref 61), (.ref 73), (.ref 85), (.ref 97), (.ref 109)], false, none, false⟩), #[(some (.ref 15)), none, (some (.str (.ofString "PoolError") 189)), (some (.str (.ofString "PoolError") 197)), (some (.builtin "ValueError.__new__")), (some (.bool true))]⟩
def s1o64 : Obj := ⟨(.type "tuple"), none, (.seq #[(.ref 24)] 0), #[]⟩
def s1o65 : Obj := ⟨(.type "builtin_function_or_method"), none, (.fields #[(.builtin "type.__prepare__"), (.type "type")]), #[]⟩
def s1o66 (P : Params) : Obj := ⟨(.type "dict"), none, (.dict #[⟨(PyData.keyHash P (.ofString "__module__")), (.str (.ofString "__module__") 262), (.str (.ofString "rangepools.errors") 187)⟩, ⟨(PyData.keyHash P (.ofString "__qualname__")), (.str (.ofString "__qualname__") 264), (.str (.ofString "Lacking") 263)⟩, ⟨(PyData.keyHash P (.ofString "__firstlineno__")), (.str (.ofString "__firstlineno__") 266), (.int (10) 265)⟩, ⟨(PyData.keyHash P (.ofString "__static_attributes__")), (.str (.ofString "__static_attributes__") 267), (.ref 71)⟩] 4), #[]⟩
def s1o67 : Obj := ⟨(.type "tuple"), none, (.seq #[] 0), #[]⟩
def s1o68 : Obj := ⟨.none, none, (.fields #[]), #[]⟩
def s1o69 : Obj := ⟨(.type "code"), none, (.fields #[(.str (.ofString "Lacking") 257), (.str (.ofString "Lacking") 258), (.str (.ofString "/claim/cut.py") 259), (.int (10) 0), (.int (0) 0), (.int (0) 0), (.int (0) 0), (.int (0) 0), (.ref 67), (.bool false), (.int (181) 0), (.ref 68), .none, .none, .none, .none, (.int (260) 0), (.int (10) 0), (.str (.ofString "/claim/cut.py") 261)]), #[]⟩
def s1o70 : Obj := ⟨(.type "frame"), none, .plain, #[(some (.ref 69)), (some (.ref 3)), (some (.ref 66)), none, (some (.str (.ofString "rangepools.errors") 187)), none, (some (.ref 0))]⟩
def s1o71 : Obj := ⟨(.type "tuple"), none, (.seq #[] 0), #[]⟩
def s1o72 (P : Params) : Obj := ⟨(.type "dict"), none, (.dict #[⟨(PyData.keyHash P (.ofString "__module__")), (.str (.ofString "__module__") 262), (.str (.ofString "rangepools.errors") 187)⟩, ⟨(PyData.keyHash P (.ofString "__firstlineno__")), (.str (.ofString "__firstlineno__") 266), (.int (10) 265)⟩, ⟨(PyData.keyHash P (.ofString "__static_attributes__")), (.str (.ofString "__static_attributes__") 267), (.ref 71)⟩, ⟨(PyData.keyHash P (.ofString "__doc__")), (.str (.ofString "__doc__") 268), .none⟩] 2), #[]⟩
def s1o73 : Obj := ⟨(.type "type"), none, (.cls ⟨(.ofString "Lacking"), [(.ref 24)], [(.ref 73), (.ref 24), (.type "ValueError"), (.type "Exception"), (.type "BaseException"), (.type "object")], 72, (.ofString "Lacking"), true, [], [], false, none, false⟩), #[(some (.ref 64)), none, (some (.str (.ofString "Lacking") 255)), (some (.str (.ofString "Lacking") 263)), (some (.builtin "ValueError.__new__")), (some (.bool true))]⟩
def s1o74 : Obj := ⟨(.type "super"), none, (.fields #[(.ref 73), (.ref 73), (.ref 73)]), #[]⟩
def s1o75 : Obj := ⟨(.type "builtin_function_or_method"), none, (.fields #[(.builtin "object.__init_subclass__"), (.ref 73)]), #[]⟩
def s1o76 : Obj := ⟨(.type "tuple"), none, (.seq #[(.ref 24)] 0), #[]⟩
def s1o77 : Obj := ⟨(.type "builtin_function_or_method"), none, (.fields #[(.builtin "type.__prepare__"), (.type "type")]), #[]⟩
def s1o78 (P : Params) : Obj := ⟨(.type "dict"), none, (.dict #[⟨(PyData.keyHash P (.ofString "__module__")), (.str (.ofString "__module__") 278), (.str (.ofString "rangepools.errors") 187)⟩, ⟨(PyData.keyHash P (.ofString "__qualname__")), (.str (.ofString "__qualname__") 280), (.str (.ofString "BadRoute") 279)⟩, ⟨(PyData.keyHash P (.ofString "__firstlineno__")), (.str (.ofString "__firstlineno__") 282), (.int (12) 281)⟩, ⟨(PyData.keyHash P (.ofString "__static_attributes__")), (.str (.ofString "__static_attributes__") 283), (.ref 83)⟩] 4), #[]⟩
def s1o79 : Obj := ⟨(.type "tuple"), none, (.seq #[] 0), #[]⟩
def s1o80 : Obj := ⟨.none, none, (.fields #[]), #[]⟩
def s1o81 : Obj := ⟨(.type "code"), none, (.fields #[(.str (.ofString "BadRoute") 273), (.str (.ofString "BadRoute") 274), (.str (.ofString "/claim/cut.py") 275), (.int (12) 0), (.int (0) 0), (.int (0) 0), (.int (0) 0), (.int (0) 0), (.ref 79), (.bool false), (.int (181) 0), (.ref 80), .none, .none, .none, .none, (.int (276) 0), (.int (12) 0), (.str (.ofString "/claim/cut.py") 277)]), #[]⟩
def s1o82 : Obj := ⟨(.type "frame"), none, .plain, #[(some (.ref 81)), (some (.ref 3)), (some (.ref 78)), none, (some (.str (.ofString "rangepools.errors") 187)), none, (some (.ref 0))]⟩
def s1o83 : Obj := ⟨(.type "tuple"), none, (.seq #[] 0), #[]⟩
def s1o84 (P : Params) : Obj := ⟨(.type "dict"), none, (.dict #[⟨(PyData.keyHash P (.ofString "__module__")), (.str (.ofString "__module__") 278), (.str (.ofString "rangepools.errors") 187)⟩, ⟨(PyData.keyHash P (.ofString "__firstlineno__")), (.str (.ofString "__firstlineno__") 282), (.int (12) 281)⟩, ⟨(PyData.keyHash P (.ofString "__static_attributes__")), (.str (.ofString "__static_attributes__") 283), (.ref 83)⟩, ⟨(PyData.keyHash P (.ofString "__doc__")), (.str (.ofString "__doc__") 284), .none⟩] 2), #[]⟩
def s1o85 : Obj := ⟨(.type "type"), none, (.cls ⟨(.ofString "BadRoute"), [(.ref 24)], [(.ref 85), (.ref 24), (.type "ValueError"), (.type "Exception"), (.type "BaseException"), (.type "object")], 84, (.ofString "BadRoute"), true, [], [], false, none, false⟩), #[(some (.ref 76)), none, (some (.str (.ofString "BadRoute") 271)), (some (.str (.ofString "BadRoute") 279)), (some (.builtin "ValueError.__new__")), (some (.bool true))]⟩
def s1o86 : Obj := ⟨(.type "super"), none, (.fields #[(.ref 85), (.ref 85), (.ref 85)]), #[]⟩
def s1o87 : Obj := ⟨(.type "builtin_function_or_method"), none, (.fields #[(.builtin "object.__init_subclass__"), (.ref 85)]), #[]⟩
def s1o88 : Obj := ⟨(.type "tuple"), none, (.seq #[(.ref 24)] 0), #[]⟩
def s1o89 : Obj := ⟨(.type "builtin_function_or_method"), none, (.fields #[(.builtin "type.__prepare__"), (.type "type")]), #[]⟩
def s1o90 (P : Params) : Obj := ⟨(.type "dict"), none, (.dict #[⟨(PyData.keyHash P (.ofString "__module__")), (.str (.ofString "__module__") 294), (.str (.ofString "rangepools.errors") 187)⟩, ⟨(PyData.keyHash P (.ofString "__qualname__")), (.str (.ofString "__qualname__") 296), (.str (.ofString "BadSplit") 295)⟩, ⟨(PyData.keyHash P (.ofString "__firstlineno__")), (.str (.ofString "__firstlineno__") 298), (.int (14) 297)⟩, ⟨(PyData.keyHash P (.ofString "__static_attributes__")), (.str (.ofString "__static_attributes__") 299), (.ref 95)⟩] 4), #[]⟩
def s1o91 : Obj := ⟨(.type "tuple"), none, (.seq #[] 0), #[]⟩
def s1o92 : Obj := ⟨.none, none, (.fields #[]), #[]⟩
def s1o93 : Obj := ⟨(.type "code"), none, (.fields #[(.str (.ofString "BadSplit") 289), (.str (.ofString "BadSplit") 290), (.str (.ofString "/claim/cut.py") 291), (.int (14) 0), (.int (0) 0), (.int (0) 0), (.int (0) 0), (.int (0) 0), (.ref 91), (.bool false), (.int (181) 0), (.ref 92), .none, .none, .none, .none, (.int (292) 0), (.int (14) 0), (.str (.ofString "/claim/cut.py") 293)]), #[]⟩
def s1o94 : Obj := ⟨(.type "frame"), none, .plain, #[(some (.ref 93)), (some (.ref 3)), (some (.ref 90)), none, (some (.str (.ofString "rangepools.errors") 187)), none, (some (.ref 0))]⟩
def s1o95 : Obj := ⟨(.type "tuple"), none, (.seq #[] 0), #[]⟩
def s1o96 (P : Params) : Obj := ⟨(.type "dict"), none, (.dict #[⟨(PyData.keyHash P (.ofString "__module__")), (.str (.ofString "__module__") 294), (.str (.ofString "rangepools.errors") 187)⟩, ⟨(PyData.keyHash P (.ofString "__firstlineno__")), (.str (.ofString "__firstlineno__") 298), (.int (14) 297)⟩, ⟨(PyData.keyHash P (.ofString "__static_attributes__")), (.str (.ofString "__static_attributes__") 299), (.ref 95)⟩, ⟨(PyData.keyHash P (.ofString "__doc__")), (.str (.ofString "__doc__") 300), .none⟩] 2), #[]⟩
def s1o97 : Obj := ⟨(.type "type"), none, (.cls ⟨(.ofString "BadSplit"), [(.ref 24)], [(.ref 97), (.ref 24), (.type "ValueError"), (.type "Exception"), (.type "BaseException"), (.type "object")], 96, (.ofString "BadSplit"), true, [], [], false, none, false⟩), #[(some (.ref 88)), none, (some (.str (.ofString "BadSplit") 287)), (some (.str (.ofString "BadSplit") 295)), (some (.builtin "ValueError.__new__")), (some (.bool true))]⟩
def s1o98 : Obj := ⟨(.type "super"), none, (.fields #[(.ref 97), (.ref 97), (.ref 97)]), #[]⟩
def s1o99 : Obj := ⟨(.type "builtin_function_or_method"), none, (.fields #[(.builtin "object.__init_subclass__"), (.ref 97)]), #[]⟩
def s1o100 : Obj := ⟨(.type "tuple"), none, (.seq #[(.ref 24)] 0), #[]⟩
def s1o101 : Obj := ⟨(.type "builtin_function_or_method"), none, (.fields #[(.builtin "type.__prepare__"), (.type "type")]), #[]⟩
def s1o102 (P : Params) : Obj := ⟨(.type "dict"), none, (.dict #[⟨(PyData.keyHash P (.ofString "__module__")), (.str (.ofString "__module__") 310), (.str (.ofString "rangepools.errors") 187)⟩, ⟨(PyData.keyHash P (.ofString "__qualname__")), (.str (.ofString "__qualname__") 312), (.str (.ofString "BadRing") 311)⟩, ⟨(PyData.keyHash P (.ofString "__firstlineno__")), (.str (.ofString "__firstlineno__") 314), (.int (16) 313)⟩, ⟨(PyData.keyHash P (.ofString "__static_attributes__")), (.str (.ofString "__static_attributes__") 315), (.ref 107)⟩] 4), #[]⟩
def s1o103 : Obj := ⟨(.type "tuple"), none, (.seq #[] 0), #[]⟩
def s1o104 : Obj := ⟨.none, none, (.fields #[]), #[]⟩
def s1o105 : Obj := ⟨(.type "code"), none, (.fields #[(.str (.ofString "BadRing") 305), (.str (.ofString "BadRing") 306), (.str (.ofString "/claim/cut.py") 307), (.int (16) 0), (.int (0) 0), (.int (0) 0), (.int (0) 0), (.int (0) 0), (.ref 103), (.bool false), (.int (181) 0), (.ref 104), .none, .none, .none, .none, (.int (308) 0), (.int (16) 0), (.str (.ofString "/claim/cut.py") 309)]), #[]⟩
def s1o106 : Obj := ⟨(.type "frame"), none, .plain, #[(some (.ref 105)), (some (.ref 3)), (some (.ref 102)), none, (some (.str (.ofString "rangepools.errors") 187)), none, (some (.ref 0))]⟩
def s1o107 : Obj := ⟨(.type "tuple"), none, (.seq #[] 0), #[]⟩
def s1o108 (P : Params) : Obj := ⟨(.type "dict"), none, (.dict #[⟨(PyData.keyHash P (.ofString "__module__")), (.str (.ofString "__module__") 310), (.str (.ofString "rangepools.errors") 187)⟩, ⟨(PyData.keyHash P (.ofString "__firstlineno__")), (.str (.ofString "__firstlineno__") 314), (.int (16) 313)⟩, ⟨(PyData.keyHash P (.ofString "__static_attributes__")), (.str (.ofString "__static_attributes__") 315), (.ref 107)⟩, ⟨(PyData.keyHash P (.ofString "__doc__")), (.str (.ofString "__doc__") 316), .none⟩] 2), #[]⟩
def s1o109 : Obj := ⟨(.type "type"), none, (.cls ⟨(.ofString "BadRing"), [(.ref 24)], [(.ref 109), (.ref 24), (.type "ValueError"), (.type "Exception"), (.type "BaseException"), (.type "object")], 108, (.ofString "BadRing"), true, [], [], false, none, false⟩), #[(some (.ref 100)), none, (some (.str (.ofString "BadRing") 303)), (some (.str (.ofString "BadRing") 311)), (some (.builtin "ValueError.__new__")), (some (.bool true))]⟩
def s1o110 : Obj := ⟨(.type "super"), none, (.fields #[(.ref 109), (.ref 109), (.ref 109)]), #[]⟩
def s1o111 : Obj := ⟨(.type "builtin_function_or_method"), none, (.fields #[(.builtin "object.__init_subclass__"), (.ref 109)]), #[]⟩
def s1T (P : Params) : BT := (.node (zo0 P) (.node (zo1 P) (.node (s1o3 P) (.node zo7 (.node s0o15 (.node s0o31 (.node s0o63 .nil .nil) (.node s1o95 .nil .nil)) (.node s0o47 (.node s1o79 .nil .nil) (.node s1o111 .nil .nil))) (.node (s0o23 P) (.node s0o39 (.node s1o71 .nil .nil) (.node s1o103 .nil .nil)) (.node s0o55 (.node s1o87 .nil .nil) .nil))) (.node ao11 (.node s0o19 (.node s0o35 (.node s1o67 .nil .nil) (.node s1o99 .nil .nil)) (.node s0o51 (.node s1o83 .nil .nil) .nil)) (.node s0o27 (.node s0o43 (.node s1o75 .nil .nil) (.node s1o107 .nil .nil)) (.node s0o59 (.node s1o91 .nil .nil) .nil)))) (.node zo5 (.node zo9 (.node (s0o17 P) (.node s0o33 (.node s1o65 .nil .nil) (.node s1o97 .nil .nil)) (.node s0o49 (.node s1o81 .nil .nil) .nil)) (.node s0o25 (.node s0o41 (.node s1o73 .nil .nil) (.node s1o105 .nil .nil)) (.node s0o57 (.node s1o89 .nil .nil) .nil))) (.node ao13 (.node s0o21 (.node s0o37 (.node s1o69 .nil .nil) (.node s1o101 .nil .nil)) (.node s0o53 (.node s1o85 .nil .nil) .nil)) (.node s0o29 (.node s0o45 (.node s1o77 .nil .nil) (.node s1o109 .nil .nil)) (.node s0o61 (.node s1o93 .nil .nil) .nil))))) (.node zo2 (.node zo4 (.node zo8 (.node s0o16 (.node s0o32 (.node s1o64 .nil .nil) (.node (s1o96 P) .nil .nil)) (.node (s0o48 P) (.node s1o80 .nil .nil) .nil)) (.node s1o24 (.node s0o40 (.node (s1o72 P) .nil .nil) (.node s1o104 .nil .nil)) (.node s0o56 (.node s1o88 .nil .nil) .nil))) (.node s1o12 (.node s0o20 (.node (s0o36 P) (.node s1o68 .nil .nil) (.node s1o100 .nil .nil)) (.node s0o52 (.node (s1o84 P) .nil .nil) .nil)) (.node s0o28 (.node s0o44 (.node s1o76 .nil .nil) (.node (s1o108 P) .nil .nil)) (.node (s0o60 P) (.node s1o92 .nil .nil) .nil)))) (.node zo6 (.node zo10 (.node s0o18 (.node s0o34 (.node (s1o66 P) .nil .nil) (.node s1o98 .nil .nil)) (.node s0o50 (.node s1o82 .nil .nil) .nil)) (.node s0o26 (.node (s0o42 P) (.node s1o74 .nil .nil) (.node s1o106 .nil .nil)) (.node s0o58 (.node (s1o90 P) .nil .nil) .nil))) (.node ao14 (.node s0o22 (.node s0o38 (.node s1o70 .nil .nil) (.node (s1o102 P) .nil .nil)) (.node (s0o54 P) (.node s1o86 .nil .nil) .nil)) (.node (s0o30 P) (.node s0o46 (.node (s1o78 P) .nil .nil) (.node s1o110 .nil .nil)) (.node s0o62 (.node s1o94 .nil .nil) .nil))))))
def s1 : LH.St := ⟨s1T, 112, #[], ⟨0, 0, 0, 0⟩, 319⟩
def s2o3 (P : Params) : Obj := ⟨(.type "dict"), none, (.dict #[⟨(PyData.keyHash P (.ofString "__name__")), (.str (.ofString "__name__") 165), (.str (.ofString "rangepools.errors") 187)⟩, ⟨(PyData.keyHash P (.ofString "__doc__")), (.str (.ofString "__doc__") 166), .none⟩, ⟨(PyData.keyHash P (.ofString "__package__")), (.str (.ofString "__package__") 167), .none⟩, ⟨(PyData.keyHash P (.ofString "__loader__")), (.str (.ofString "__loader__") 168), (.builtin "__main__.__loader__#opaque")⟩, ⟨(PyData.keyHash P (.ofString "__spec__")), (.str (.ofString "__spec__") 169), .none⟩, ⟨(PyData.keyHash P (.ofString "__annotations__")), (.str (.ofString "__annotations__") 170), (.ref 6)⟩, ⟨(PyData.keyHash P (.ofString "__builtins__")), (.str (.ofString "__builtins__") 171), (.ref 4)⟩, ⟨(PyData.keyHash P (.ofString "__file__")), (.str (.ofString "__file__") 173), (.str (.ofString "/claim/cut.py") 172)⟩, ⟨(PyData.keyHash P (.ofString "__cached__")), (.str (.ofString "__cached__") 174), .none⟩, ⟨(PyData.keyHash P (.ofString "PoolError")), (.str (.ofString "PoolError") 206), (.ref 24)⟩, ⟨(PyData.keyHash P (.ofString "ByZero")), (.str (.ofString "ByZero") 222), (.ref 37)⟩, ⟨(PyData.keyHash P (.ofString "BadText")), (.str (.ofString "BadText") 238), (.ref 49)⟩, ⟨(PyData.keyHash P (.ofString "BadRange")), (.str (.ofString "BadRange") 254), (.ref 61)⟩, ⟨(PyData.keyHash P (.ofString "Lacking")), (.str (.ofString "Lacking") 270), (.ref 73)⟩, ⟨(PyData.keyHash P (.ofString "BadRoute")), (.str (.ofString "BadRoute") 286), (.ref 85)⟩, ⟨(PyData.keyHash P (.ofString "BadSplit")), (.str (.ofString "BadSplit") 302), (.ref 97)⟩, ⟨(PyData.keyHash P (.ofString "BadRing")), (.str (.ofString "BadRing") 318), (.ref 109)⟩, ⟨(PyData.keyHash P (.ofString "TooMuch")), (.str (.ofString "TooMuch") 334), (.ref 121)⟩, ⟨(PyData.keyHash P (.ofString "UnlikeFees")), (.str (.ofString "UnlikeFees") 350), (.ref 133)⟩, ⟨(PyData.keyHash P (.ofString "BadPrices")), (.str (.ofString "BadPrices") 366), (.ref 145)⟩, ⟨(PyData.keyHash P (.ofString "NothingToUndo")), (.str (.ofString "NothingToUndo") 382), (.ref 157)⟩] 21), #[]⟩
def s2o12 : Obj := ⟨.none, none, (.fields #[(.int (2) 0), (.int (0) 0), (.ref 20), (.int (4) 0), (.int (0) 0), (.ref 33), (.int (6) 0), (.int (0) 0), (.ref 45), (.int (8) 0), (.int (0) 0), (.ref 57), (.int (10) 0), (.int (0) 0), (.ref 69), (.int (12) 0), (.int (0) 0), (.ref 81), (.int (14) 0), (.int (0) 0), (.ref 93), (.int (16) 0), (.int (0) 0), (.ref 105), (.int (18) 0), (.int (0) 0), (.ref 117), (.int (20) 0), (.int (0) 0), (.ref 129), (.int (22) 0), (.int (0) 0), (.ref 141), (.int (24) 0), (.int (0) 0), (.ref 153)]), #[]⟩
def s2o24 : Obj := ⟨(.type "type"), none, (.cls ⟨(.ofString "PoolError"), [(.type "ValueError")], [(.ref 24), (.type "ValueError"), (.type "Exception"), (.type "BaseException"), (.type "object")], 23, (.ofString "PoolError"), true, [], [(.ref 37), (.ref 49), (.ref 61), (.ref 73), (.ref 85), (.ref 97), (.ref 109), (.ref 121), (.ref 133), (.ref 145), (.ref 157)], false, none, false⟩), #[(some (.ref 15)), none, (some (.str (.ofString "PoolError") 189)), (some (.str (.ofString "PoolError") 197)), (some (.builtin "ValueError.__new__")), (some (.bool true))]⟩
def s2o112 : Obj := ⟨(.type "tuple"), none, (.seq #[(.ref 24)] 0), #[]⟩
def s2o113 : Obj := ⟨(.type "builtin_function_or_method"), none, (.fields #[(.builtin "type.__prepare__"), (.type "type")]), #[]⟩
def s2o114 (P : Params) : Obj := ⟨(.type "dict"), none, (.dict #[⟨(PyData.keyHash P (.ofString "__module__")), (.str (.ofString "__module__") 326), (.str (.ofString "rangepools.errors") 187)⟩, ⟨(PyData.keyHash P (.ofString "__qualname__")), (.str (.ofString "__qualname__") 328), (.str (.ofString "TooMuch") 327)⟩, ⟨(PyData.keyHash P (.ofString "__firstlineno__")), (.str (.ofString "__firstlineno__") 330), (.int (18) 329)⟩, ⟨(PyData.keyHash P (.ofString "__static_attributes__")), (.str (.ofString "__static_attributes__") 331), (.ref 119)⟩] 4), #[]⟩
def s2o115 : Obj := ⟨(.type "tuple"), none, (.seq #[] 0), #[]⟩
def s2o116 : Obj := ⟨.none, none, (.fields #[]), #[]⟩
def s2o117 : Obj := ⟨(.type "code"), none, (.fields #[(.str (.ofString "TooMuch") 321), (.str (.ofString "TooMuch") 322), (.str (.ofString "/claim/cut.py") 323), (.int (18) 0), (.int (0) 0), (.int (0) 0), (.int (0) 0), (.int (0) 0), (.ref 115), (.bool false), (.int (181) 0), (.ref 116), .none, .none, .none, .none, (.int (324) 0), (.int (18) 0), (.str (.ofString "/claim/cut.py") 325)]), #[]⟩
def s2o118 : Obj := ⟨(.type "frame"), none, .plain, #[(some (.ref 117)), (some (.ref 3)), (some (.ref 114)), none, (some (.str (.ofString "rangepools.errors") 187)), none, (some (.ref 0))]⟩
def s2o119 : Obj := ⟨(.type "tuple"), none, (.seq #[] 0), #[]⟩
def s2o120 (P : Params) : Obj := ⟨(.type "dict"), none, (.dict #[⟨(PyData.keyHash P (.ofString "__module__")), (.str (.ofString "__module__") 326), (.str (.ofString "rangepools.errors") 187)⟩, ⟨(PyData.keyHash P (.ofString "__firstlineno__")), (.str (.ofString "__firstlineno__") 330), (.int (18) 329)⟩, ⟨(PyData.keyHash P (.ofString "__static_attributes__")), (.str (.ofString "__static_attributes__") 331), (.ref 119)⟩, ⟨(PyData.keyHash P (.ofString "__doc__")), (.str (.ofString "__doc__") 332), .none⟩] 2), #[]⟩
def s2o121 : Obj := ⟨(.type "type"), none, (.cls ⟨(.ofString "TooMuch"), [(.ref 24)], [(.ref 121), (.ref 24), (.type "ValueError"), (.type "Exception"), (.type "BaseException"), (.type "object")], 120, (.ofString "TooMuch"), true, [], [], false, none, false⟩), #[(some (.ref 112)), none, (some (.str (.ofString "TooMuch") 319)), (some (.str (.ofString "TooMuch") 327)), (some (.builtin "ValueError.__new__")), (some (.bool true))]⟩
def s2o122 : Obj := ⟨(.type "super"), none, (.fields #[(.ref 121), (.ref 121), (.ref 121)]), #[]⟩
def s2o123 : Obj := ⟨(.type "builtin_function_or_method"), none, (.fields #[(.builtin "object.__init_subclass__"), (.ref 121)]), #[]⟩
def s2o124 : Obj := ⟨(.type "tuple"), none, (.seq #[(.ref 24)] 0), #[]⟩
def s2o125 : Obj := ⟨(.type "builtin_function_or_method"), none, (.fields #[(.builtin "type.__prepare__"), (.type "type")]), #[]⟩
def s2o126 (P : Params) : Obj := ⟨(.type "dict"), none, (.dict #[⟨(PyData.keyHash P (.ofString "__module__")), (.str (.ofString "__module__") 342), (.str (.ofString "rangepools.errors") 187)⟩, ⟨(PyData.keyHash P (.ofString "__qualname__")), (.str (.ofString "__qualname__") 344), (.str (.ofString "UnlikeFees") 343)⟩, ⟨(PyData.keyHash P (.ofString "__firstlineno__")), (.str (.ofString "__firstlineno__") 346), (.int (20) 345)⟩, ⟨(PyData.keyHash P (.ofString "__static_attributes__")), (.str (.ofString "__static_attributes__") 347), (.ref 131)⟩] 4), #[]⟩
def s2o127 : Obj := ⟨(.type "tuple"), none, (.seq #[] 0), #[]⟩
def s2o128 : Obj := ⟨.none, none, (.fields #[]), #[]⟩
def s2o129 : Obj := ⟨(.type "code"), none, (.fields #[(.str (.ofString "UnlikeFees") 337), (.str (.ofString "UnlikeFees") 338), (.str (.ofString "/claim/cut.py") 339), (.int (20) 0), (.int (0) 0), (.int (0) 0), (.int (0) 0), (.int (0) 0), (.ref 127), (.bool false), (.int (181) 0), (.ref 128), .none, .none, .none, .none, (.int (340) 0), (.int (20) 0), (.str (.ofString "/claim/cut.py") 341)]), #[]⟩
def s2o130 : Obj := ⟨(.type "frame"), none, .plain, #[(some (.ref 129)), (some (.ref 3)), (some (.ref 126)), none, (some (.str (.ofString "rangepools.errors") 187)), none, (some (.ref 0))]⟩
def s2o131 : Obj := ⟨(.type "tuple"), none, (.seq #[] 0), #[]⟩
def s2o132 (P : Params) : Obj := ⟨(.type "dict"), none, (.dict #[⟨(PyData.keyHash P (.ofString "__module__")), (.str (.ofString "__module__") 342), (.str (.ofString "rangepools.errors") 187)⟩, ⟨(PyData.keyHash P (.ofString "__firstlineno__")), (.str (.ofString "__firstlineno__") 346), (.int (20) 345)⟩, ⟨(PyData.keyHash P (.ofString "__static_attributes__")), (.str (.ofString "__static_attributes__") 347), (.ref 131)⟩, ⟨(PyData.keyHash P (.ofString "__doc__")), (.str (.ofString "__doc__") 348), .none⟩] 2), #[]⟩
def s2o133 : Obj := ⟨(.type "type"), none, (.cls ⟨(.ofString "UnlikeFees"), [(.ref 24)], [(.ref 133), (.ref 24), (.type "ValueError"), (.type "Exception"), (.type "BaseException"), (.type "object")], 132, (.ofString "UnlikeFees"), true, [], [], false, none, false⟩), #[(some (.ref 124)), none, (some (.str (.ofString "UnlikeFees") 335)), (some (.str (.ofString "UnlikeFees") 343)), (some (.builtin "ValueError.__new__")), (some (.bool true))]⟩
def s2o134 : Obj := ⟨(.type "super"), none, (.fields #[(.ref 133), (.ref 133), (.ref 133)]), #[]⟩
def s2o135 : Obj := ⟨(.type "builtin_function_or_method"), none, (.fields #[(.builtin "object.__init_subclass__"), (.ref 133)]), #[]⟩
def s2o136 : Obj := ⟨(.type "tuple"), none, (.seq #[(.ref 24)] 0), #[]⟩
def s2o137 : Obj := ⟨(.type "builtin_function_or_method"), none, (.fields #[(.builtin "type.__prepare__"), (.type "type")]), #[]⟩
def s2o138 (P : Params) : Obj := ⟨(.type "dict"), none, (.dict #[⟨(PyData.keyHash P (.ofString "__module__")), (.str (.ofString "__module__") 358), (.str (.ofString "rangepools.errors") 187)⟩, ⟨(PyData.keyHash P (.ofString "__qualname__")), (.str (.ofString "__qualname__") 360), (.str (.ofString "BadPrices") 359)⟩, ⟨(PyData.keyHash P (.ofString "__firstlineno__")), (.str (.ofString "__firstlineno__") 362), (.int (22) 361)⟩, ⟨(PyData.keyHash P (.ofString "__static_attributes__")), (.str (.ofString "__static_attributes__") 363), (.ref 143)⟩] 4), #[]⟩
def s2o139 : Obj := ⟨(.type "tuple"), none, (.seq #[] 0), #[]⟩
def s2o140 : Obj := ⟨.none, none, (.fields #[]), #[]⟩
def s2o141 : Obj := ⟨(.type "code"), none, (.fields #[(.str (.ofString "BadPrices") 353), (.str (.ofString "BadPrices") 354), (.str (.ofString "/claim/cut.py") 355), (.int (22) 0), (.int (0) 0), (.int (0) 0), (.int (0) 0), (.int (0) 0), (.ref 139), (.bool false), (.int (181) 0), (.ref 140), .none, .none, .none, .none, (.int (356) 0), (.int (22) 0), (.str (.ofString "/claim/cut.py") 357)]), #[]⟩
def s2o142 : Obj := ⟨(.type "frame"), none, .plain, #[(some (.ref 141)), (some (.ref 3)), (some (.ref 138)), none, (some (.str (.ofString "rangepools.errors") 187)), none, (some (.ref 0))]⟩
def s2o143 : Obj := ⟨(.type "tuple"), none, (.seq #[] 0), #[]⟩
def s2o144 (P : Params) : Obj := ⟨(.type "dict"), none, (.dict #[⟨(PyData.keyHash P (.ofString "__module__")), (.str (.ofString "__module__") 358), (.str (.ofString "rangepools.errors") 187)⟩, ⟨(PyData.keyHash P (.ofString "__firstlineno__")), (.str (.ofString "__firstlineno__") 362), (.int (22) 361)⟩, ⟨(PyData.keyHash P (.ofString "__static_attributes__")), (.str (.ofString "__static_attributes__") 363), (.ref 143)⟩, ⟨(PyData.keyHash P (.ofString "__doc__")), (.str (.ofString "__doc__") 364), .none⟩] 2), #[]⟩
def s2o145 : Obj := ⟨(.type "type"), none, (.cls ⟨(.ofString "BadPrices"), [(.ref 24)], [(.ref 145), (.ref 24), (.type "ValueError"), (.type "Exception"), (.type "BaseException"), (.type "object")], 144, (.ofString "BadPrices"), true, [], [], false, none, false⟩), #[(some (.ref 136)), none, (some (.str (.ofString "BadPrices") 351)), (some (.str (.ofString "BadPrices") 359)), (some (.builtin "ValueError.__new__")), (some (.bool true))]⟩
def s2o146 : Obj := ⟨(.type "super"), none, (.fields #[(.ref 145), (.ref 145), (.ref 145)]), #[]⟩
def s2o147 : Obj := ⟨(.type "builtin_function_or_method"), none, (.fields #[(.builtin "object.__init_subclass__"), (.ref 145)]), #[]⟩
def s2o148 : Obj := ⟨(.type "tuple"), none, (.seq #[(.ref 24)] 0), #[]⟩
def s2o149 : Obj := ⟨(.type "builtin_function_or_method"), none, (.fields #[(.builtin "type.__prepare__"), (.type "type")]), #[]⟩
def s2o150 (P : Params) : Obj := ⟨(.type "dict"), none, (.dict #[⟨(PyData.keyHash P (.ofString "__module__")), (.str (.ofString "__module__") 374), (.str (.ofString "rangepools.errors") 187)⟩, ⟨(PyData.keyHash P (.ofString "__qualname__")), (.str (.ofString "__qualname__") 376), (.str (.ofString "NothingToUndo") 375)⟩, ⟨(PyData.keyHash P (.ofString "__firstlineno__")), (.str (.ofString "__firstlineno__") 378), (.int (24) 377)⟩, ⟨(PyData.keyHash P (.ofString "__static_attributes__")), (.str (.ofString "__static_attributes__") 379), (.ref 155)⟩] 4), #[]⟩
def s2o151 : Obj := ⟨(.type "tuple"), none, (.seq #[] 0), #[]⟩
def s2o152 : Obj := ⟨.none, none, (.fields #[]), #[]⟩
def s2o153 : Obj := ⟨(.type "code"), none, (.fields #[(.str (.ofString "NothingToUndo") 369), (.str (.ofString "NothingToUndo") 370), (.str (.ofString "/claim/cut.py") 371), (.int (24) 0), (.int (0) 0), (.int (0) 0), (.int (0) 0), (.int (0) 0), (.ref 151), (.bool false), (.int (181) 0), (.ref 152), .none, .none, .none, .none, (.int (372) 0), (.int (24) 0), (.str (.ofString "/claim/cut.py") 373)]), #[]⟩
def s2o154 : Obj := ⟨(.type "frame"), none, .plain, #[(some (.ref 153)), (some (.ref 3)), (some (.ref 150)), none, (some (.str (.ofString "rangepools.errors") 187)), none, (some (.ref 0))]⟩
def s2o155 : Obj := ⟨(.type "tuple"), none, (.seq #[] 0), #[]⟩
def s2o156 (P : Params) : Obj := ⟨(.type "dict"), none, (.dict #[⟨(PyData.keyHash P (.ofString "__module__")), (.str (.ofString "__module__") 374), (.str (.ofString "rangepools.errors") 187)⟩, ⟨(PyData.keyHash P (.ofString "__firstlineno__")), (.str (.ofString "__firstlineno__") 378), (.int (24) 377)⟩, ⟨(PyData.keyHash P (.ofString "__static_attributes__")), (.str (.ofString "__static_attributes__") 379), (.ref 155)⟩, ⟨(PyData.keyHash P (.ofString "__doc__")), (.str (.ofString "__doc__") 380), .none⟩] 2), #[]⟩
def s2o157 : Obj := ⟨(.type "type"), none, (.cls ⟨(.ofString "NothingToUndo"), [(.ref 24)], [(.ref 157), (.ref 24), (.type "ValueError"), (.type "Exception"), (.type "BaseException"), (.type "object")], 156, (.ofString "NothingToUndo"), true, [], [], false, none, false⟩), #[(some (.ref 148)), none, (some (.str (.ofString "NothingToUndo") 367)), (some (.str (.ofString "NothingToUndo") 375)), (some (.builtin "ValueError.__new__")), (some (.bool true))]⟩
def s2o158 : Obj := ⟨(.type "super"), none, (.fields #[(.ref 157), (.ref 157), (.ref 157)]), #[]⟩
def s2o159 : Obj := ⟨(.type "builtin_function_or_method"), none, (.fields #[(.builtin "object.__init_subclass__"), (.ref 157)]), #[]⟩
def s2T (P : Params) : BT := (.node (zo0 P) (.node (zo1 P) (.node (s2o3 P) (.node zo7 (.node s0o15 (.node s0o31 (.node s0o63 (.node s2o127 .nil .nil) .nil) (.node s1o95 (.node s2o159 .nil .nil) .nil)) (.node s0o47 (.node s1o79 (.node s2o143 .nil .nil) .nil) (.node s1o111 .nil .nil))) (.node (s0o23 P) (.node s0o39 (.node s1o71 (.node s2o135 .nil .nil) .nil) (.node s1o103 .nil .nil)) (.node s0o55 (.node s1o87 (.node s2o151 .nil .nil) .nil) (.node s2o119 .nil .nil)))) (.node ao11 (.node s0o19 (.node s0o35 (.node s1o67 (.node s2o131 .nil .nil) .nil) (.node s1o99 .nil .nil)) (.node s0o51 (.node s1o83 (.node s2o147 .nil .nil) .nil) (.node s2o115 .nil .nil))) (.node s0o27 (.node s0o43 (.node s1o75 (.node s2o139 .nil .nil) .nil) (.node s1o107 .nil .nil)) (.node s0o59 (.node s1o91 (.node s2o155 .nil .nil) .nil) (.node s2o123 .nil .nil))))) (.node zo5 (.node zo9 (.node (s0o17 P) (.node s0o33 (.node s1o65 (.node s2o129 .nil .nil) .nil) (.node s1o97 .nil .nil)) (.node s0o49 (.node s1o81 (.node s2o145 .nil .nil) .nil) (.node s2o113 .nil .nil))) (.node s0o25 (.node s0o41 (.node s1o73 (.node s2o137 .nil .nil) .nil) (.node s1o105 .nil .nil)) (.node s0o57 (.node s1o89 (.node s2o153 .nil .nil) .nil) (.node s2o121 .nil .nil)))) (.node ao13 (.node s0o21 (.node s0o37 (.node s1o69 (.node s2o133 .nil .nil) .nil) (.node s1o101 .nil .nil)) (.node s0o53 (.node s1o85 (.node s2o149 .nil .nil) .nil) (.node s2o117 .nil .nil))) (.node s0o29 (.node s0o45 (.node s1o77 (.node s2o141 .nil .nil) .nil) (.node s1o109 .nil .nil)) (.node s0o61 (.node s1o93 (.node s2o157 .nil .nil) .nil) (.node s2o125 .nil .nil)))))) (.node zo2 (.node zo4 (.node zo8 (.node s0o16 (.node s0o32 (.node s1o64 (.node s2o128 .nil .nil) .nil) (.node (s1o96 P) .nil .nil)) (.node (s0o48 P) (.node s1o80 (.node (s2o144 P) .nil .nil) .nil) (.node s2o112 .nil .nil))) (.node s2o24 (.node s0o40 (.node (s1o72 P) (.node s2o136 .nil .nil) .nil) (.node s1o104 .nil .nil)) (.node s0o56 (.node s1o88 (.node s2o152 .nil .nil) .nil) (.node (s2o120 P) .nil .nil)))) (.node s2o12 (.node s0o20 (.node (s0o36 P) (.node s1o68 (.node (s2o132 P) .nil .nil) .nil) (.node s1o100 .nil .nil)) (.node s0o52 (.node (s1o84 P) (.node s2o148 .nil .nil) .nil) (.node s2o116 .nil .nil))) (.node s0o28 (.node s0o44 (.node s1o76 (.node s2o140 .nil .nil) .nil) (.node (s1o108 P) .nil .nil)) (.node (s0o60 P) (.node s1o92 (.node (s2o156 P) .nil .nil) .nil) (.node s2o124 .nil .nil))))) (.node zo6 (.node zo10 (.node s0o18 (.node s0o34 (.node (s1o66 P) (.node s2o130 .nil .nil) .nil) (.node s1o98 .nil .nil)) (.node s0o50 (.node s1o82 (.node s2o146 .nil .nil) .nil) (.node (s2o114 P) .nil .nil))) (.node s0o26 (.node (s0o42 P) (.node s1o74 (.node (s2o138 P) .nil .nil) .nil) (.node s1o106 .nil .nil)) (.node s0o58 (.node (s1o90 P) (.node s2o154 .nil .nil) .nil) (.node s2o122 .nil .nil)))) (.node ao14 (.node s0o22 (.node s0o38 (.node s1o70 (.node s2o134 .nil .nil) .nil) (.node (s1o102 P) .nil .nil)) (.node (s0o54 P) (.node s1o86 (.node (s2o150 P) .nil .nil) .nil) (.node s2o118 .nil .nil))) (.node (s0o30 P) (.node s0o46 (.node (s1o78 P) (.node s2o142 .nil .nil) .nil) (.node s1o110 .nil .nil)) (.node s0o62 (.node s1o94 (.node s2o158 .nil .nil) .nil) (.node (s2o126 P) .nil .nil)))))))
def s2 : LH.St := ⟨s2T, 160, #[], ⟨0, 0, 0, 0⟩, 383⟩
def s3o3 (P : Params) : Obj := ⟨(.type "dict"), none, (.dict #[⟨(PyData.keyHash P (.ofString "__name__")), (.str (.ofString "__name__") 165), (.str (.ofString "rangepools.errors") 187)⟩, ⟨(PyData.keyHash P (.ofString "__doc__")), (.str (.ofString "__doc__") 166), .none⟩, ⟨(PyData.keyHash P (.ofString "__package__")), (.str (.ofString "__package__") 167), .none⟩, ⟨(PyData.keyHash P (.ofString "__loader__")), (.str (.ofString "__loader__") 168), (.builtin "__main__.__loader__#opaque")⟩, ⟨(PyData.keyHash P (.ofString "__spec__")), (.str (.ofString "__spec__") 169), .none⟩, ⟨(PyData.keyHash P (.ofString "__annotations__")), (.str (.ofString "__annotations__") 170), (.ref 6)⟩, ⟨(PyData.keyHash P (.ofString "__builtins__")), (.str (.ofString "__builtins__") 171), (.ref 4)⟩, ⟨(PyData.keyHash P (.ofString "__file__")), (.str (.ofString "__file__") 173), (.str (.ofString "/claim/cut.py") 172)⟩, ⟨(PyData.keyHash P (.ofString "__cached__")), (.str (.ofString "__cached__") 174), .none⟩, ⟨(PyData.keyHash P (.ofString "PoolError")), (.str (.ofString "PoolError") 206), (.ref 24)⟩, ⟨(PyData.keyHash P (.ofString "ByZero")), (.str (.ofString "ByZero") 222), (.ref 37)⟩, ⟨(PyData.keyHash P (.ofString "BadText")), (.str (.ofString "BadText") 238), (.ref 49)⟩, ⟨(PyData.keyHash P (.ofString "BadRange")), (.str (.ofString "BadRange") 254), (.ref 61)⟩, ⟨(PyData.keyHash P (.ofString "Lacking")), (.str (.ofString "Lacking") 270), (.ref 73)⟩, ⟨(PyData.keyHash P (.ofString "BadRoute")), (.str (.ofString "BadRoute") 286), (.ref 85)⟩, ⟨(PyData.keyHash P (.ofString "BadSplit")), (.str (.ofString "BadSplit") 302), (.ref 97)⟩, ⟨(PyData.keyHash P (.ofString "BadRing")), (.str (.ofString "BadRing") 318), (.ref 109)⟩, ⟨(PyData.keyHash P (.ofString "TooMuch")), (.str (.ofString "TooMuch") 334), (.ref 121)⟩, ⟨(PyData.keyHash P (.ofString "UnlikeFees")), (.str (.ofString "UnlikeFees") 350), (.ref 133)⟩, ⟨(PyData.keyHash P (.ofString "BadPrices")), (.str (.ofString "BadPrices") 366), (.ref 145)⟩, ⟨(PyData.keyHash P (.ofString "NothingToUndo")), (.str (.ofString "NothingToUndo") 382), (.ref 157)⟩, ⟨(PyData.keyHash P (.ofString "NothingToRedo")), (.str (.ofString "NothingToRedo") 398), (.ref 169)⟩, ⟨(PyData.keyHash P (.ofString "BadNumber")), (.str (.ofString "BadNumber") 423), (.ref 188)⟩, ⟨(PyData.keyHash P (.ofString "BadSize")), (.str (.ofString "BadSize") 448), (.ref 207)⟩, ⟨(PyData.keyHash P (.ofString "BadRoot")), (.str (.ofString "BadRoot") 473), (.ref 226)⟩] 25), #[]⟩
def s3o12 : Obj := ⟨.none, none, (.fields #[(.int (2) 0), (.int (0) 0), (.ref 20), (.int (4) 0), (.int (0) 0), (.ref 33), (.int (6) 0), (.int (0) 0), (.ref 45), (.int (8) 0), (.int (0) 0), (.ref 57), (.int (10) 0), (.int (0) 0), (.ref 69), (.int (12) 0), (.int (0) 0), (.ref 81), (.int (14) 0), (.int (0) 0), (.ref 93), (.int (16) 0), (.int (0) 0), (.ref 105), (.int (18) 0), (.int (0) 0), (.ref 117), (.int (20) 0), (.int (0) 0), (.ref 129), (.int (22) 0), (.int (0) 0), (.ref 141), (.int (24) 0), (.int (0) 0), (.ref 153), (.int (26) 0), (.int (0) 0), (.ref 165), (.int (28) 0), (.int (0) 0), (.ref 177), (.int (32) 0), (.int (0) 0), (.ref 196), (.int (36) 0), (.int (0) 0), (.ref 215)]), #[]⟩
def s3o24 : Obj := ⟨(.type "type"), none, (.cls ⟨(.ofString "PoolError"), [(.type "ValueError")], [(.ref 24), (.type "ValueError"), (.type "Exception"), (.type "BaseException"), (.type "object")], 23, (.ofString "PoolError"), true, [], [(.ref 37), (.ref 49), (.ref 61), (.ref 73), (.ref 85), (.ref 97), (.ref 109), (.ref 121), (.ref 133), (.ref 145), (.ref 157), (.ref 169), (.ref 188), (.ref 207), (.ref 226)], false, none, false⟩), #[(some (.ref 15)), none, (some (.str (.ofString "PoolError") 189)), (some (.str (.ofString "PoolError") 197)), (some (.builtin "ValueError.__new__")), (some (.bool true))]⟩
def s3o160 : Obj := ⟨(.type "tuple"), none, (.seq #[(.ref 24)] 0), #[]⟩
def s3o161 : Obj := ⟨(.type "builtin_function_or_method"), none, (.fields #[(.builtin "type.__prepare__"), (.type "type")]), #[]⟩
def s3o162 (P : Params) : Obj := ⟨(.type "dict"), none, (.dict #[⟨(PyData.keyHash P (.ofString "__module__")), (.str (.ofString "__module__") 390), (.str (.ofString "rangepools.errors") 187)⟩, ⟨(PyData.keyHash P (.ofString "__qualname__")), (.str (.ofString "__qualname__") 392), (.str (.ofString "NothingToRedo") 391)⟩, ⟨(PyData.keyHash P (.ofString "__firstlineno__")), (.str (.ofString "__firstlineno__") 394), (.int (26) 393)⟩, ⟨(PyData.keyHash P (.ofString "__static_attributes__")), (.str (.ofString "__static_attributes__") 395), (.ref 167)⟩] 4), #[]⟩
def s3o163 : Obj := ⟨(.type "tuple"), none, (.seq #[] 0), #[]⟩
def s3o164 : Obj := ⟨.none, none, (.fields #[]), #[]⟩
def s3o165 : Obj := ⟨(.type "code"), none, (.fields #[(.str (.ofString "NothingToRedo") 385), (.str (.ofString "NothingToRedo") 386), (.str (.ofString "/claim/cut.py") 387), (.int (26) 0), (.int (0) 0), (.int (0) 0), (.int (0) 0), (.int (0) 0), (.ref 163), (.bool false), (.int (181) 0), (.ref 164), .none, .none, .none, .none, (.int (388) 0), (.int (26) 0), (.str (.ofString "/claim/cut.py") 389)]), #[]⟩
def s3o166 : Obj := ⟨(.type "frame"), none, .plain, #[(some (.ref 165)), (some (.ref 3)), (some (.ref 162)), none, (some (.str (.ofString "rangepools.errors") 187)), none, (some (.ref 0))]⟩
def s3o167 : Obj := ⟨(.type "tuple"), none, (.seq #[] 0), #[]⟩
def s3o168 (P : Params) : Obj := ⟨(.type "dict"), none, (.dict #[⟨(PyData.keyHash P (.ofString "__module__")), (.str (.ofString "__module__") 390), (.str (.ofString "rangepools.errors") 187)⟩, ⟨(PyData.keyHash P (.ofString "__firstlineno__")), (.str (.ofString "__firstlineno__") 394), (.int (26) 393)⟩, ⟨(PyData.keyHash P (.ofString "__static_attributes__")), (.str (.ofString "__static_attributes__") 395), (.ref 167)⟩, ⟨(PyData.keyHash P (.ofString "__doc__")), (.str (.ofString "__doc__") 396), .none⟩] 2), #[]⟩
def s3o169 : Obj := ⟨(.type "type"), none, (.cls ⟨(.ofString "NothingToRedo"), [(.ref 24)], [(.ref 169), (.ref 24), (.type "ValueError"), (.type "Exception"), (.type "BaseException"), (.type "object")], 168, (.ofString "NothingToRedo"), true, [], [], false, none, false⟩), #[(some (.ref 160)), none, (some (.str (.ofString "NothingToRedo") 383)), (some (.str (.ofString "NothingToRedo") 391)), (some (.builtin "ValueError.__new__")), (some (.bool true))]⟩
def s3o170 : Obj := ⟨(.type "super"), none, (.fields #[(.ref 169), (.ref 169), (.ref 169)]), #[]⟩
def s3o171 : Obj := ⟨(.type "builtin_function_or_method"), none, (.fields #[(.builtin "object.__init_subclass__"), (.ref 169)]), #[]⟩
def s3o172 : Obj := ⟨(.type "tuple"), none, (.seq #[(.ref 24)] 0), #[]⟩
def s3o173 : Obj := ⟨(.type "builtin_function_or_method"), none, (.fields #[(.builtin "type.__prepare__"), (.type "type")]), #[]⟩
def s3o174 (P : Params) : Obj := ⟨(.type "dict"), none, (.dict #[⟨(PyData.keyHash P (.ofString "__module__")), (.str (.ofString "__module__") 406), (.str (.ofString "rangepools.errors") 187)⟩, ⟨(PyData.keyHash P (.ofString "__qualname__")), (.str (.ofString "__qualname__") 408), (.str (.ofString "BadNumber") 407)⟩, ⟨(PyData.keyHash P (.ofString "__firstlineno__")), (.str (.ofString "__firstlineno__") 410), (.int (28) 409)⟩, ⟨(PyData.keyHash P (.ofString "__init__")), (.str (.ofString "__init__") 418), (.ref 185)⟩, ⟨(PyData.keyHash P (.ofString "__static_attributes__")), (.str (.ofString "__static_attributes__") 420), (.ref 186)⟩] 5), #[]⟩
def s3o175 : Obj := ⟨(.type "tuple"), none, (.seq #[] 0), #[]⟩
def s3o176 : Obj := ⟨.none, none, (.fields #[(.int (30) 0), (.int (4) 0), (.ref 184)]), #[]⟩
def s3o177 : Obj := ⟨(.type "code"), none, (.fields #[(.str (.ofString "BadNumber") 401), (.str (.ofString "BadNumber") 402), (.str (.ofString "/claim/cut.py") 403), (.int (28) 0), (.int (0) 0), (.int (0) 0), (.int (0) 0), (.int (0) 0), (.ref 175), (.bool false), (.int (181) 0), (.ref 176), .none, .none, .none, .none, (.int (404) 0), (.int (28) 0), (.str (.ofString "/claim/cut.py") 405)]), #[]⟩
def s3o178 : Obj := ⟨(.type "frame"), none, .plain, #[(some (.ref 177)), (some (.ref 3)), (some (.ref 174)), none, (some (.str (.ofString "rangepools.errors") 187)), none, (some (.ref 0))]⟩
def s3o179 : Obj := ⟨(.type "tuple"), none, (.seq #[] 0), #[]⟩
def s3o180 : Obj := ⟨.none, none, (.fields #[]), #[]⟩
def s3o181 : Obj := ⟨(.type "tuple"), none, (.seq #[(.str (.ofString "self") 414), (.str (.ofString "given") 415)] 0), #[]⟩
def s3o182 : Obj := ⟨(.type "tuple"), none, (.seq #[] 0), #[]⟩
def s3o183 : Obj := ⟨.none, none, (.func ⟨(.ofString "__init__"), (.ofString "BadNumber.__init__"), defArgs (inClass (top 14) 0), .stmts (defBody (inClass (top 14) 0)), defScope (inClass (top 14) 0), 0, [], .none, .none, .none, .none, none, .none, .none, 0⟩), #[]⟩
def s3o184 : Obj := ⟨(.type "code"), none, (.fields #[(.str (.ofString "__init__") 411), (.str (.ofString "BadNumber.__init__") 412), (.str (.ofString "/claim/cut.py") 413), (.int (30) 0), (.int (2) 0), (.int (0) 0), (.int (0) 0), (.int (3) 0), (.ref 179), (.bool true), (.int (181) 0), (.ref 180), .none, (.ref 181), (.ref 182), (.ref 183), (.int (416) 0), (.int (30) 0), (.str (.ofString "/claim/cut.py") 417)]), #[]⟩
def s3o185 : Obj := ⟨(.type "function"), none, (.func ⟨(.ofString "__init__"), (.ofString "BadNumber.__init__"), defArgs (inClass (top 14) 0), .stmts (defBody (inClass (top 14) 0)), defScope (inClass (top 14) 0), 3, [], .none, .none, .none, (.str (.ofString "rangepools.errors") 187), none, (.ref 184), .none, 0⟩), #[]⟩
def s3o186 : Obj := ⟨(.type "tuple"), none, (.seq #[(.str (.ofString "given") 419)] 0), #[]⟩
def s3o187 (P : Params) : Obj := ⟨(.type "dict"), none, (.dict #[⟨(PyData.keyHash P (.ofString "__module__")), (.str (.ofString "__module__") 406), (.str (.ofString "rangepools.errors") 187)⟩, ⟨(PyData.keyHash P (.ofString "__firstlineno__")), (.str (.ofString "__firstlineno__") 410), (.int (28) 409)⟩, ⟨(PyData.keyHash P (.ofString "__init__")), (.str (.ofString "__init__") 418), (.ref 185)⟩, ⟨(PyData.keyHash P (.ofString "__static_attributes__")), (.str (.ofString "__static_attributes__") 420), (.ref 186)⟩, ⟨(PyData.keyHash P (.ofString "__doc__")), (.str (.ofString "__doc__") 421), .none⟩] 2), #[]⟩
def s3o188 : Obj := ⟨(.type "type"), none, (.cls ⟨(.ofString "BadNumber"), [(.ref 24)], [(.ref 188), (.ref 24), (.type "ValueError"), (.type "Exception"), (.type "BaseException"), (.type "object")], 187, (.ofString "BadNumber"), true, [], [], false, none, false⟩), #[(some (.ref 172)), none, (some (.str (.ofString "BadNumber") 399)), (some (.str (.ofString "BadNumber") 407)), (some (.builtin "ValueError.__new__")), (some (.bool true))]⟩
def s3o189 : Obj := ⟨(.type "super"), none, (.fields #[(.ref 188), (.ref 188), (.ref 188)]), #[]⟩
def s3o190 : Obj := ⟨(.type "builtin_function_or_method"), none, (.fields #[(.builtin "object.__init_subclass__"), (.ref 188)]), #[]⟩
def s3o191 : Obj := ⟨(.type "tuple"), none, (.seq #[(.ref 24)] 0), #[]⟩
def s3o192 : Obj := ⟨(.type "builtin_function_or_method"), none, (.fields #[(.builtin "type.__prepare__"), (.type "type")]), #[]⟩
def s3o193 (P : Params) : Obj := ⟨(.type "dict"), none, (.dict #[⟨(PyData.keyHash P (.ofString "__module__")), (.str (.ofString "__module__") 431), (.str (.ofString "rangepools.errors") 187)⟩, ⟨(PyData.keyHash P (.ofString "__qualname__")), (.str (.ofString "__qualname__") 433), (.str (.ofString "BadSize") 432)⟩, ⟨(PyData.keyHash P (.ofString "__firstlineno__")), (.str (.ofString "__firstlineno__") 435), (.int (32) 434)⟩, ⟨(PyData.keyHash P (.ofString "__init__")), (.str (.ofString "__init__") 443), (.ref 204)⟩, ⟨(PyData.keyHash P (.ofString "__static_attributes__")), (.str (.ofString "__static_attributes__") 445), (.ref 205)⟩] 5), #[]⟩
def s3o194 : Obj := ⟨(.type "tuple"), none, (.seq #[] 0), #[]⟩
def s3o195 : Obj := ⟨.none, none, (.fields #[(.int (34) 0), (.int (4) 0), (.ref 203)]), #[]⟩
def s3o196 : Obj := ⟨(.type "code"), none, (.fields #[(.str (.ofString "BadSize") 426), (.str (.ofString "BadSize") 427), (.str (.ofString "/claim/cut.py") 428), (.int (32) 0), (.int (0) 0), (.int (0) 0), (.int (0) 0), (.int (0) 0), (.ref 194), (.bool false), (.int (181) 0), (.ref 195), .none, .none, .none, .none, (.int (429) 0), (.int (32) 0), (.str (.ofString "/claim/cut.py") 430)]), #[]⟩
def s3o197 : Obj := ⟨(.type "frame"), none, .plain, #[(some (.ref 196)), (some (.ref 3)), (some (.ref 193)), none, (some (.str (.ofString "rangepools.errors") 187)), none, (some (.ref 0))]⟩
def s3o198 : Obj := ⟨(.type "tuple"), none, (.seq #[] 0), #[]⟩
def s3o199 : Obj := ⟨.none, none, (.fields #[]), #[]⟩
def s3o200 : Obj := ⟨(.type "tuple"), none, (.seq #[(.str (.ofString "self") 439), (.str (.ofString "given") 440)] 0), #[]⟩
def s3o201 : Obj := ⟨(.type "tuple"), none, (.seq #[] 0), #[]⟩
def s3o202 : Obj := ⟨.none, none, (.func ⟨(.ofString "__init__"), (.ofString "BadSize.__init__"), defArgs (inClass (top 15) 0), .stmts (defBody (inClass (top 15) 0)), defScope (inClass (top 15) 0), 0, [], .none, .none, .none, .none, none, .none, .none, 0⟩), #[]⟩
def s3o203 : Obj := ⟨(.type "code"), none, (.fields #[(.str (.ofString "__init__") 436), (.str (.ofString "BadSize.__init__") 437), (.str (.ofString "/claim/cut.py") 438), (.int (34) 0), (.int (2) 0), (.int (0) 0), (.int (0) 0), (.int (3) 0), (.ref 198), (.bool true), (.int (181) 0), (.ref 199), .none, (.ref 200), (.ref 201), (.ref 202), (.int (441) 0), (.int (34) 0), (.str (.ofString "/claim/cut.py") 442)]), #[]⟩
def s3o204 : Obj := ⟨(.type "function"), none, (.func ⟨(.ofString "__init__"), (.ofString "BadSize.__init__"), defArgs (inClass (top 15) 0), .stmts (defBody (inClass (top 15) 0)), defScope (inClass (top 15) 0), 3, [], .none, .none, .none, (.str (.ofString "rangepools.errors") 187), none, (.ref 203), .none, 0⟩), #[]⟩
def s3o205 : Obj := ⟨(.type "tuple"), none, (.seq #[(.str (.ofString "given") 444)] 0), #[]⟩
def s3o206 (P : Params) : Obj := ⟨(.type "dict"), none, (.dict #[⟨(PyData.keyHash P (.ofString "__module__")), (.str (.ofString "__module__") 431), (.str (.ofString "rangepools.errors") 187)⟩, ⟨(PyData.keyHash P (.ofString "__firstlineno__")), (.str (.ofString "__firstlineno__") 435), (.int (32) 434)⟩, ⟨(PyData.keyHash P (.ofString "__init__")), (.str (.ofString "__init__") 443), (.ref 204)⟩, ⟨(PyData.keyHash P (.ofString "__static_attributes__")), (.str (.ofString "__static_attributes__") 445), (.ref 205)⟩, ⟨(PyData.keyHash P (.ofString "__doc__")), (.str (.ofString "__doc__") 446), .none⟩] 2), #[]⟩
def s3o207 : Obj := ⟨(.type "type"), none, (.cls ⟨(.ofString "BadSize"), [(.ref 24)], [(.ref 207), (.ref 24), (.type "ValueError"), (.type "Exception"), (.type "BaseException"), (.type "object")], 206, (.ofString "BadSize"), true, [], [], false, none, false⟩), #[(some (.ref 191)), none, (some (.str (.ofString "BadSize") 424)), (some (.str (.ofString "BadSize") 432)), (some (.builtin "ValueError.__new__")), (some (.bool true))]⟩
def s3o208 : Obj := ⟨(.type "super"), none, (.fields #[(.ref 207), (.ref 207), (.ref 207)]), #[]⟩
def s3o209 : Obj := ⟨(.type "builtin_function_or_method"), none, (.fields #[(.builtin "object.__init_subclass__"), (.ref 207)]), #[]⟩
def s3o210 : Obj := ⟨(.type "tuple"), none, (.seq #[(.ref 24)] 0), #[]⟩
def s3o211 : Obj := ⟨(.type "builtin_function_or_method"), none, (.fields #[(.builtin "type.__prepare__"), (.type "type")]), #[]⟩
def s3o212 (P : Params) : Obj := ⟨(.type "dict"), none, (.dict #[⟨(PyData.keyHash P (.ofString "__module__")), (.str (.ofString "__module__") 456), (.str (.ofString "rangepools.errors") 187)⟩, ⟨(PyData.keyHash P (.ofString "__qualname__")), (.str (.ofString "__qualname__") 458), (.str (.ofString "BadRoot") 457)⟩, ⟨(PyData.keyHash P (.ofString "__firstlineno__")), (.str (.ofString "__firstlineno__") 460), (.int (36) 459)⟩, ⟨(PyData.keyHash P (.ofString "__init__")), (.str (.ofString "__init__") 468), (.ref 223)⟩, ⟨(PyData.keyHash P (.ofString "__static_attributes__")), (.str (.ofString "__static_attributes__") 470), (.ref 224)⟩] 5), #[]⟩
def s3o213 : Obj := ⟨(.type "tuple"), none, (.seq #[] 0), #[]⟩
def s3o214 : Obj := ⟨.none, none, (.fields #[(.int (38) 0), (.int (4) 0), (.ref 222)]), #[]⟩
def s3o215 : Obj := ⟨(.type "code"), none, (.fields #[(.str (.ofString "BadRoot") 451), (.str (.ofString "BadRoot") 452), (.str (.ofString "/claim/cut.py") 453), (.int (36) 0), (.int (0) 0), (.int (0) 0), (.int (0) 0), (.int (0) 0), (.ref 213), (.bool false), (.int (181) 0), (.ref 214), .none, .none, .none, .none, (.int (454) 0), (.int (36) 0), (.str (.ofString "/claim/cut.py") 455)]), #[]⟩
def s3o216 : Obj := ⟨(.type "frame"), none, .plain, #[(some (.ref 215)), (some (.ref 3)), (some (.ref 212)), none, (some (.str (.ofString "rangepools.errors") 187)), none, (some (.ref 0))]⟩
def s3o217 : Obj := ⟨(.type "tuple"), none, (.seq #[] 0), #[]⟩
def s3o218 : Obj := ⟨.none, none, (.fields #[]), #[]⟩
def s3o219 : Obj := ⟨(.type "tuple"), none, (.seq #[(.str (.ofString "self") 464), (.str (.ofString "given") 465)] 0), #[]⟩
def s3o220 : Obj := ⟨(.type "tuple"), none, (.seq #[] 0), #[]⟩
def s3o221 : Obj := ⟨.none, none, (.func ⟨(.ofString "__init__"), (.ofString "BadRoot.__init__"), defArgs (inClass (top 16) 0), .stmts (defBody (inClass (top 16) 0)), defScope (inClass (top 16) 0), 0, [], .none, .none, .none, .none, none, .none, .none, 0⟩), #[]⟩
def s3o222 : Obj := ⟨(.type "code"), none, (.fields #[(.str (.ofString "__init__") 461), (.str (.ofString "BadRoot.__init__") 462), (.str (.ofString "/claim/cut.py") 463), (.int (38) 0), (.int (2) 0), (.int (0) 0), (.int (0) 0), (.int (3) 0), (.ref 217), (.bool true), (.int (181) 0), (.ref 218), .none, (.ref 219), (.ref 220), (.ref 221), (.int (466) 0), (.int (38) 0), (.str (.ofString "/claim/cut.py") 467)]), #[]⟩
def s3o223 : Obj := ⟨(.type "function"), none, (.func ⟨(.ofString "__init__"), (.ofString "BadRoot.__init__"), defArgs (inClass (top 16) 0), .stmts (defBody (inClass (top 16) 0)), defScope (inClass (top 16) 0), 3, [], .none, .none, .none, (.str (.ofString "rangepools.errors") 187), none, (.ref 222), .none, 0⟩), #[]⟩
def s3o224 : Obj := ⟨(.type "tuple"), none, (.seq #[(.str (.ofString "given") 469)] 0), #[]⟩
def s3o225 (P : Params) : Obj := ⟨(.type "dict"), none, (.dict #[⟨(PyData.keyHash P (.ofString "__module__")), (.str (.ofString "__module__") 456), (.str (.ofString "rangepools.errors") 187)⟩, ⟨(PyData.keyHash P (.ofString "__firstlineno__")), (.str (.ofString "__firstlineno__") 460), (.int (36) 459)⟩, ⟨(PyData.keyHash P (.ofString "__init__")), (.str (.ofString "__init__") 468), (.ref 223)⟩, ⟨(PyData.keyHash P (.ofString "__static_attributes__")), (.str (.ofString "__static_attributes__") 470), (.ref 224)⟩, ⟨(PyData.keyHash P (.ofString "__doc__")), (.str (.ofString "__doc__") 471), .none⟩] 2), #[]⟩
def s3o226 : Obj := ⟨(.type "type"), none, (.cls ⟨(.ofString "BadRoot"), [(.ref 24)], [(.ref 226), (.ref 24), (.type "ValueError"), (.type "Exception"), (.type "BaseException"), (.type "object")], 225, (.ofString "BadRoot"), true, [], [], false, none, false⟩), #[(some (.ref 210)), none, (some (.str (.ofString "BadRoot") 449)), (some (.str (.ofString "BadRoot") 457)), (some (.builtin "ValueError.__new__")), (some (.bool true))]⟩
def s3o227 : Obj := ⟨(.type "super"), none, (.fields #[(.ref 226), (.ref 226), (.ref 226)]), #[]⟩
def s3o228 : Obj := ⟨(.type "builtin_function_or_method"), none, (.fields #[(.builtin "object.__init_subclass__"), (.ref 226)]), #[]⟩
def s3T (P : Params) : BT := (.node (zo0 P) (.node (zo1 P) (.node (s3o3 P) (.node zo7 (.node s0o15 (.node s0o31 (.node s0o63 (.node s2o127 .nil .nil) (.node s3o191 .nil .nil)) (.node s1o95 (.node s2o159 .nil .nil) (.node s3o223 .nil .nil))) (.node s0o47 (.node s1o79 (.node s2o143 .nil .nil) (.node s3o207 .nil .nil)) (.node s1o111 (.node s3o175 .nil .nil) .nil))) (.node (s0o23 P) (.node s0o39 (.node s1o71 (.node s2o135 .nil .nil) (.node s3o199 .nil .nil)) (.node s1o103 (.node s3o167 .nil .nil) .nil)) (.node s0o55 (.node s1o87 (.node s2o151 .nil .nil) (.node s3o215 .nil .nil)) (.node s2o119 (.node s3o183 .nil .nil) .nil)))) (.node ao11 (.node s0o19 (.node s0o35 (.node s1o67 (.node s2o131 .nil .nil) (.node s3o195 .nil .nil)) (.node s1o99 (.node s3o163 .nil .nil) (.node s3o227 .nil .nil))) (.node s0o51 (.node s1o83 (.node s2o147 .nil .nil) (.node s3o211 .nil .nil)) (.node s2o115 (.node s3o179 .nil .nil) .nil))) (.node s0o27 (.node s0o43 (.node s1o75 (.node s2o139 .nil .nil) (.node s3o203 .nil .nil)) (.node s1o107 (.node s3o171 .nil .nil) .nil)) (.node s0o59 (.node s1o91 (.node s2o155 .nil .nil) (.node s3o219 .nil .nil)) (.node s2o123 (.node (s3o187 P) .nil .nil) .nil))))) (.node zo5 (.node zo9 (.node (s0o17 P) (.node s0o33 (.node s1o65 (.node s2o129 .nil .nil) (.node (s3o193 P) .nil .nil)) (.node s1o97 (.node s3o161 .nil .nil) (.node (s3o225 P) .nil .nil))) (.node s0o49 (.node s1o81 (.node s2o145 .nil .nil) (.node s3o209 .nil .nil)) (.node s2o113 (.node s3o177 .nil .nil) .nil))) (.node s0o25 (.node s0o41 (.node s1o73 (.node s2o137 .nil .nil) (.node s3o201 .nil .nil)) (.node s1o105 (.node s3o169 .nil .nil) .nil)) (.node s0o57 (.node s1o89 (.node s2o153 .nil .nil) (.node s3o217 .nil .nil)) (.node s2o121 (.node s3o185 .nil .nil) .nil)))) (.node ao13 (.node s0o21 (.node s0o37 (.node s1o69 (.node s2o133 .nil .nil) (.node s3o197 .nil .nil)) (.node s1o101 (.node s3o165 .nil .nil) .nil)) (.node s0o53 (.node s1o85 (.node s2o149 .nil .nil) (.node s3o213 .nil .nil)) (.node s2o117 (.node s3o181 .nil .nil) .nil))) (.node s0o29 (.node s0o45 (.node s1o77 (.node s2o141 .nil .nil) (.node s3o205 .nil .nil)) (.node s1o109 (.node s3o173 .nil .nil) .nil)) (.node s0o61 (.node s1o93 (.node s2o157 .nil .nil) (.node s3o221 .nil .nil)) (.node s2o125 (.node s3o189 .nil .nil) .nil)))))) (.node zo2 (.node zo4 (.node zo8 (.node s0o16 (.node s0o32 (.node s1o64 (.node s2o128 .nil .nil) (.node s3o192 .nil .nil)) (.node (s1o96 P) (.node s3o160 .nil .nil) (.node s3o224 .nil .nil))) (.node (s0o48 P) (.node s1o80 (.node (s2o144 P) .nil .nil) (.node s3o208 .nil .nil)) (.node s2o112 (.node s3o176 .nil .nil) .nil))) (.node s3o24 (.node s0o40 (.node (s1o72 P) (.node s2o136 .nil .nil) (.node s3o200 .nil .nil)) (.node s1o104 (.node (s3o168 P) .nil .nil) .nil)) (.node s0o56 (.node s1o88 (.node s2o152 .nil .nil) (.node s3o216 .nil .nil)) (.node (s2o120 P) (.node s3o184 .nil .nil) .nil)))) (.node s3o12 (.node s0o20 (.node (s0o36 P) (.node s1o68 (.node (s2o132 P) .nil .nil) (.node s3o196 .nil .nil)) (.node s1o100 (.node s3o164 .nil .nil) (.node s3o228 .nil .nil))) (.node s0o52 (.node (s1o84 P) (.node s2o148 .nil .nil) (.node (s3o212 P) .nil .nil)) (.node s2o116 (.node s3o180 .nil .nil) .nil))) (.node s0o28 (.node s0o44 (.node s1o76 (.node s2o140 .nil .nil) (.node s3o204 .nil .nil)) (.node (s1o108 P) (.node s3o172 .nil .nil) .nil)) (.node (s0o60 P) (.node s1o92 (.node (s2o156 P) .nil .nil) (.node s3o220 .nil .nil)) (.node s2o124 (.node s3o188 .nil .nil) .nil))))) (.node zo6 (.node zo10 (.node s0o18 (.node s0o34 (.node (s1o66 P) (.node s2o130 .nil .nil) (.node s3o194 .nil .nil)) (.node s1o98 (.node (s3o162 P) .nil .nil) (.node s3o226 .nil .nil))) (.node s0o50 (.node s1o82 (.node s2o146 .nil .nil) (.node s3o210 .nil .nil)) (.node (s2o114 P) (.node s3o178 .nil .nil) .nil))) (.node s0o26 (.node (s0o42 P) (.node s1o74 (.node (s2o138 P) .nil .nil) (.node s3o202 .nil .nil)) (.node s1o106 (.node s3o170 .nil .nil) .nil)) (.node s0o58 (.node (s1o90 P) (.node s2o154 .nil .nil) (.node s3o218 .nil .nil)) (.node s2o122 (.node s3o186 .nil .nil) .nil)))) (.node ao14 (.node s0o22 (.node s0o38 (.node s1o70 (.node s2o134 .nil .nil) (.node s3o198 .nil .nil)) (.node (s1o102 P) (.node s3o166 .nil .nil) .nil)) (.node (s0o54 P) (.node s1o86 (.node (s2o150 P) .nil .nil) (.node s3o214 .nil .nil)) (.node s2o118 (.node s3o182 .nil .nil) .nil))) (.node (s0o30 P) (.node s0o46 (.node (s1o78 P) (.node s2o142 .nil .nil) (.node (s3o206 P) .nil .nil)) (.node s1o110 (.node (s3o174 P) .nil .nil) .nil)) (.node s0o62 (.node s1o94 (.node s2o158 .nil .nil) (.node s3o222 .nil .nil)) (.node (s2o126 P) (.node s3o190 .nil .nil) .nil)))))))
def s3 : LH.St := ⟨s3T, 229, #[], ⟨0, 0, 0, 0⟩, 474⟩
def s4o3 (P : Params) : Obj := ⟨(.type "dict"), none, (.dict #[⟨(PyData.keyHash P (.ofString "__name__")), (.str (.ofString "__name__") 165), (.str (.ofString "rangepools.errors") 187)⟩, ⟨(PyData.keyHash P (.ofString "__doc__")), (.str (.ofString "__doc__") 166), .none⟩, ⟨(PyData.keyHash P (.ofString "__package__")), (.str (.ofString "__package__") 167), .none⟩, ⟨(PyData.keyHash P (.ofString "__loader__")), (.str (.ofString "__loader__") 168), (.builtin "__main__.__loader__#opaque")⟩, ⟨(PyData.keyHash P (.ofString "__spec__")), (.str (.ofString "__spec__") 169), .none⟩, ⟨(PyData.keyHash P (.ofString "__annotations__")), (.str (.ofString "__annotations__") 170), (.ref 6)⟩, ⟨(PyData.keyHash P (.ofString "__builtins__")), (.str (.ofString "__builtins__") 171), (.ref 4)⟩, ⟨(PyData.keyHash P (.ofString "__file__")), (.str (.ofString "__file__") 173), (.str (.ofString "/claim/cut.py") 172)⟩, ⟨(PyData.keyHash P (.ofString "__cached__")), (.str (.ofString "__cached__") 174), .none⟩, ⟨(PyData.keyHash P (.ofString "PoolError")), (.str (.ofString "PoolError") 206), (.ref 24)⟩, ⟨(PyData.keyHash P (.ofString "ByZero")), (.str (.ofString "ByZero") 222), (.ref 37)⟩, ⟨(PyData.keyHash P (.ofString "BadText")), (.str (.ofString "BadText") 238), (.ref 49)⟩, ⟨(PyData.keyHash P (.ofString "BadRange")), (.str (.ofString "BadRange") 254), (.ref 61)⟩, ⟨(PyData.keyHash P (.ofString "Lacking")), (.str (.ofString "Lacking") 270), (.ref 73)⟩, ⟨(PyData.keyHash P (.ofString "BadRoute")), (.str (.ofString "BadRoute") 286), (.ref 85)⟩, ⟨(PyData.keyHash P (.ofString "BadSplit")), (.str (.ofString "BadSplit") 302), (.ref 97)⟩, ⟨(PyData.keyHash P (.ofString "BadRing")), (.str (.ofString "BadRing") 318), (.ref 109)⟩, ⟨(PyData.keyHash P (.ofString "TooMuch")), (.str (.ofString "TooMuch") 334), (.ref 121)⟩, ⟨(PyData.keyHash P (.ofString "UnlikeFees")), (.str (.ofString "UnlikeFees") 350), (.ref 133)⟩, ⟨(PyData.keyHash P (.ofString "BadPrices")), (.str (.ofString "BadPrices") 366), (.ref 145)⟩, ⟨(PyData.keyHash P (.ofString "NothingToUndo")), (.str (.ofString "NothingToUndo") 382), (.ref 157)⟩, ⟨(PyData.keyHash P (.ofString "NothingToRedo")), (.str (.ofString "NothingToRedo") 398), (.ref 169)⟩, ⟨(PyData.keyHash P (.ofString "BadNumber")), (.str (.ofString "BadNumber") 423), (.ref 188)⟩, ⟨(PyData.keyHash P (.ofString "BadSize")), (.str (.ofString "BadSize") 448), (.ref 207)⟩, ⟨(PyData.keyHash P (.ofString "BadRoot")), (.str (.ofString "BadRoot") 473), (.ref 226)⟩, ⟨(PyData.keyHash P (.ofString "BadFee")), (.str (.ofString "BadFee") 498), (.ref 245)⟩, ⟨(PyData.keyHash P (.ofString "BadGood")), (.str (.ofString "BadGood") 523), (.ref 264)⟩, ⟨(PyData.keyHash P (.ofString "BadAmount")), (.str (.ofString "BadAmount") 548), (.ref 283)⟩, ⟨(PyData.keyHash P (.ofString "NoWay")), (.str (.ofString "NoWay") 573), (.ref 302)⟩] 29), #[]⟩
def s4o12 : Obj := ⟨.none, none, (.fields #[(.int (2) 0), (.int (0) 0), (.ref 20), (.int (4) 0), (.int (0) 0), (.ref 33), (.int (6) 0), (.int (0) 0), (.ref 45), (.int (8) 0), (.int (0) 0), (.ref 57), (.int (10) 0), (.int (0) 0), (.ref 69), (.int (12) 0), (.int (0) 0), (.ref 81), (.int (14) 0), (.int (0) 0), (.ref 93), (.int (16) 0), (.int (0) 0), (.ref 105), (.int (18) 0), (.int (0) 0), (.ref 117), (.int (20) 0), (.int (0) 0), (.ref 129), (.int (22) 0), (.int (0) 0), (.ref 141), (.int (24) 0), (.int (0) 0), (.ref 153), (.int (26) 0), (.int (0) 0), (.ref 165), (.int (28) 0), (.int (0) 0), (.ref 177), (.int (32) 0), (.int (0) 0), (.ref 196), (.int (36) 0), (.int (0) 0), (.ref 215), (.int (40) 0), (.int (0) 0), (.ref 234), (.int (44) 0), (.int (0) 0), (.ref 253), (.int (48) 0), (.int (0) 0), (.ref 272), (.int (52) 0), (.int (0) 0), (.ref 291)]), #[]⟩
def s4o24 : Obj := ⟨(.type "type"), none, (.cls ⟨(.ofString "PoolError"), [(.type "ValueError")], [(.ref 24), (.type "ValueError"), (.type "Exception"), (.type "BaseException"), (.type "object")], 23, (.ofString "PoolError"), true, [], [(.ref 37), (.ref 49), (.ref 61), (.ref 73), (.ref 85), (.ref 97), (.ref 109), (.ref 121), (.ref 133), (.ref 145), (.ref 157), (.ref 169), (.ref 188), (.ref 207), (.ref 226), (.ref 245), (.ref 264), (.ref 283), (.ref 302)], false, none, false⟩), #[(some (.ref 15)), none, (some (.str (.ofString "PoolError") 189)), (some (.str (.ofString "PoolError") 197)), (some (.builtin "ValueError.__new__")), (some (.bool true))]⟩
def s4o229 : Obj := ⟨(.type "tuple"), none, (.seq #[(.ref 24)] 0), #[]⟩
def s4o230 : Obj := ⟨(.type "builtin_function_or_method"), none, (.fields #[(.builtin "type.__prepare__"), (.type "type")]), #[]⟩
def s4o231 (P : Params) : Obj := ⟨(.type "dict"), none, (.dict #[⟨(PyData.keyHash P (.ofString "__module__")), (.str (.ofString "__module__") 481), (.str (.ofString "rangepools.errors") 187)⟩, ⟨(PyData.keyHash P (.ofString "__qualname__")), (.str (.ofString "__qualname__") 483), (.str (.ofString "BadFee") 482)⟩, ⟨(PyData.keyHash P (.ofString "__firstlineno__")), (.str (.ofString "__firstlineno__") 485), (.int (40) 484)⟩, ⟨(PyData.keyHash P (.ofString "__init__")), (.str (.ofString "__init__") 493), (.ref 242)⟩, ⟨(PyData.keyHash P (.ofString "__static_attributes__")), (.str (.ofString "__static_attributes__") 495), (.ref 243)⟩] 5), #[]⟩
def s4o232 : Obj := ⟨(.type "tuple"), none, (.seq #[] 0), #[]⟩
def s4o233 : Obj := ⟨.none, none, (.fields #[(.int (42) 0), (.int (4) 0), (.ref 241)]), #[]⟩
def s4o234 : Obj := ⟨(.type "code"), none, (.fields #[(.str (.ofString "BadFee") 476), (.str (.ofString "BadFee") 477), (.str (.ofString "/claim/cut.py") 478), (.int (40) 0), (.int (0) 0), (.int (0) 0), (.int (0) 0), (.int (0) 0), (.ref 232), (.bool false), (.int (181) 0), (.ref 233), .none, .none, .none, .none, (.int (479) 0), (.int (40) 0), (.str (.ofString "/claim/cut.py") 480)]), #[]⟩
def s4o235 : Obj := ⟨(.type "frame"), none, .plain, #[(some (.ref 234)), (some (.ref 3)), (some (.ref 231)), none, (some (.str (.ofString "rangepools.errors") 187)), none, (some (.ref 0))]⟩
def s4o236 : Obj := ⟨(.type "tuple"), none, (.seq #[] 0), #[]⟩
def s4o237 : Obj := ⟨.none, none, (.fields #[]), #[]⟩
def s4o238 : Obj := ⟨(.type "tuple"), none, (.seq #[(.str (.ofString "self") 489), (.str (.ofString "given") 490)] 0), #[]⟩
def s4o239 : Obj := ⟨(.type "tuple"), none, (.seq #[] 0), #[]⟩
def s4o240 : Obj := ⟨.none, none, (.func ⟨(.ofString "__init__"), (.ofString "BadFee.__init__"), defArgs (inClass (top 17) 0), .stmts (defBody (inClass (top 17) 0)), defScope (inClass (top 17) 0), 0, [], .none, .none, .none, .none, none, .none, .none, 0⟩), #[]⟩
def s4o241 : Obj := ⟨(.type "code"), none, (.fields #[(.str (.ofString "__init__") 486), (.str (.ofString "BadFee.__init__") 487), (.str (.ofString "/claim/cut.py") 488), (.int (42) 0), (.int (2) 0), (.int (0) 0), (.int (0) 0), (.int (3) 0), (.ref 236), (.bool true), (.int (181) 0), (.ref 237), .none, (.ref 238), (.ref 239), (.ref 240), (.int (491) 0), (.int (42) 0), (.str (.ofString "/claim/cut.py") 492)]), #[]⟩
def s4o242 : Obj := ⟨(.type "function"), none, (.func ⟨(.ofString "__init__"), (.ofString "BadFee.__init__"), defArgs (inClass (top 17) 0), .stmts (defBody (inClass (top 17) 0)), defScope (inClass (top 17) 0), 3, [], .none, .none, .none, (.str (.ofString "rangepools.errors") 187), none, (.ref 241), .none, 0⟩), #[]⟩
def s4o243 : Obj := ⟨(.type "tuple"), none, (.seq #[(.str (.ofString "given") 494)] 0), #[]⟩
def s4o244 (P : Params) : Obj := ⟨(.type "dict"), none, (.dict #[⟨(PyData.keyHash P (.ofString "__module__")), (.str (.ofString "__module__") 481), (.str (.ofString "rangepools.errors") 187)⟩, ⟨(PyData.keyHash P (.ofString "__firstlineno__")), (.str (.ofString "__firstlineno__") 485), (.int (40) 484)⟩, ⟨(PyData.keyHash P (.ofString "__init__")), (.str (.ofString "__init__") 493), (.ref 242)⟩, ⟨(PyData.keyHash P (.ofString "__static_attributes__")), (.str (.ofString "__static_attributes__") 495), (.ref 243)⟩, ⟨(PyData.keyHash P (.ofString "__doc__")), (.str (.ofString "__doc__") 496), .none⟩] 2), #[]⟩
def s4o245 : Obj := ⟨(.type "type"), none, (.cls ⟨(.ofString "BadFee"), [(.ref 24)], [(.ref 245), (.ref 24), (.type "ValueError"), (.type "Exception"), (.type "BaseException"), (.type "object")], 244, (.ofString "BadFee"), true, [], [], false, none, false⟩), #[(some (.ref 229)), none, (some (.str (.ofString "BadFee") 474)), (some (.str (.ofString "BadFee") 482)), (some (.builtin "ValueError.__new__")), (some (.bool true))]⟩
def s4o246 : Obj := ⟨(.type "super"), none, (.fields #[(.ref 245), (.ref 245), (.ref 245)]), #[]⟩
def s4o247 : Obj := ⟨(.type "builtin_function_or_method"), none, (.fields #[(.builtin "object.__init_subclass__"), (.ref 245)]), #[]⟩
def s4o248 : Obj := ⟨(.type "tuple"), none, (.seq #[(.ref 24)] 0), #[]⟩
def s4o249 : Obj := ⟨(.type "builtin_function_or_method"), none, (.fields #[(.builtin "type.__prepare__"), (.type "type")]), #[]⟩
def s4o250 (P : Params) : Obj := ⟨(.type "dict"), none, (.dict #[⟨(PyData.keyHash P (.ofString "__module__")), (.str (.ofString "__module__") 506), (.str (.ofString "rangepools.errors") 187)⟩, ⟨(PyData.keyHash P (.ofString "__qualname__")), (.str (.ofString "__qualname__") 508), (.str (.ofString "BadGood") 507)⟩, ⟨(PyData.keyHash P (.ofString "__firstlineno__")), (.str (.ofString "__firstlineno__") 510), (.int (44) 509)⟩, ⟨(PyData.keyHash P (.ofString "__init__")), (.str (.ofString "__init__") 518), (.ref 261)⟩, ⟨(PyData.keyHash P (.ofString "__static_attributes__")), (.str (.ofString "__static_attributes__") 520), (.ref 262)⟩] 5), #[]⟩
def s4o251 : Obj := ⟨(.type "tuple"), none, (.seq #[] 0), #[]⟩
def s4o252 : Obj := ⟨.none, none, (.fields #[(.int (46) 0), (.int (4) 0), (.ref 260)]), #[]⟩
def s4o253 : Obj := ⟨(.type "code"), none, (.fields #[(.str (.ofString "BadGood") 501), (.str (.ofString "BadGood") 502), (.str (.ofString "/claim/cut.py") 503), (.int (44) 0), (.int (0) 0), (.int (0) 0), (.int (0) 0), (.int (0) 0), (.ref 251), (.bool false), (.int (181) 0), (.ref 252), .none, .none, .none, .none, (.int (504) 0), (.int (44) 0), (.str (.ofString "/claim/cut.py") 505)]), #[]⟩
def s4o254 : Obj := ⟨(.type "frame"), none, .plain, #[(some (.ref 253)), (some (.ref 3)), (some (.ref 250)), none, (some (.str (.ofString "rangepools.errors") 187)), none, (some (.ref 0))]⟩
def s4o255 : Obj := ⟨(.type "tuple"), none, (.seq #[] 0), #[]⟩
def s4o256 : Obj := ⟨.none, none, (.fields #[]), #[]⟩
def s4o257 : Obj := ⟨(.type "tuple"), none, (.seq #[(.str (.ofString "self") 514), (.str (.ofString "given") 515)] 0), #[]⟩
def s4o258 : Obj := ⟨(.type "tuple"), none, (.seq #[] 0), #[]⟩
def s4o259 : Obj := ⟨.none, none, (.func ⟨(.ofString "__init__"), (.ofString "BadGood.__init__"), defArgs (inClass (top 18) 0), .stmts (defBody (inClass (top 18) 0)), defScope (inClass (top 18) 0), 0, [], .none, .none, .none, .none, none, .none, .none, 0⟩), #[]⟩
def s4o260 : Obj := ⟨(.type "code"), none, (.fields #[(.str (.ofString "__init__") 511), (.str (.ofString "BadGood.__init__") 512), (.str (.ofString "/claim/cut.py") 513), (.int (46) 0), (.int (2) 0), (.int (0) 0), (.int (0) 0), (.int (3) 0), (.ref 255), (.bool true), (.int (181) 0), (.ref 256), .none, (.ref 257), (.ref 258), (.ref 259), (.int (516) 0), (.int (46) 0), (.str (.ofString "/claim/cut.py") 517)]), #[]⟩
def s4o261 : Obj := ⟨(.type "function"), none, (.func ⟨(.ofString "__init__"), (.ofString "BadGood.__init__"), defArgs (inClass (top 18) 0), .stmts (defBody (inClass (top 18) 0)), defScope (inClass (top 18) 0), 3, [], .none, .none, .none, (.str (.ofString "rangepools.errors") 187), none, (.ref 260), .none, 0⟩), #[]⟩
def s4o262 : Obj := ⟨(.type "tuple"), none, (.seq #[(.str (.ofString "given") 519)] 0), #[]⟩
def s4o263 (P : Params) : Obj := ⟨(.type "dict"), none, (.dict #[⟨(PyData.keyHash P (.ofString "__module__")), (.str (.ofString "__module__") 506), (.str (.ofString "rangepools.errors") 187)⟩, ⟨(PyData.keyHash P (.ofString "__firstlineno__")), (.str (.ofString "__firstlineno__") 510), (.int (44) 509)⟩, ⟨(PyData.keyHash P (.ofString "__init__")), (.str (.ofString "__init__") 518), (.ref 261)⟩, ⟨(PyData.keyHash P (.ofString "__static_attributes__")), (.str (.ofString "__static_attributes__") 520), (.ref 262)⟩, ⟨(PyData.keyHash P (.ofString "__doc__")), (.str (.ofString "__doc__") 521), .none⟩] 2), #[]⟩
def s4o264 : Obj := ⟨(.type "type"), none, (.cls ⟨(.ofString "BadGood"), [(.ref 24)], [(.ref 264), (.ref 24), (.type "ValueError"), (.type "Exception"), (.type "BaseException"), (.type "object")], 263, (.ofString "BadGood"), true, [], [], false, none, false⟩), #[(some (.ref 248)), none, (some (.str (.ofString "BadGood") 499)), (some (.str (.ofString "BadGood") 507)), (some (.builtin "ValueError.__new__")), (some (.bool true))]⟩
def s4o265 : Obj := ⟨(.type "super"), none, (.fields #[(.ref 264), (.ref 264), (.ref 264)]), #[]⟩
def s4o266 : Obj := ⟨(.type "builtin_function_or_method"), none, (.fields #[(.builtin "object.__init_subclass__"), (.ref 264)]), #[]⟩
def s4o267 : Obj := ⟨(.type "tuple"), none, (.seq #[(.ref 24)] 0), #[]⟩
def s4o268 : Obj := ⟨(.type "builtin_function_or_method"), none, (.fields #[(.builtin "type.__prepare__"), (.type "type")]), #[]⟩
def s4o269 (P : Params) : Obj := ⟨(.type "dict"), none, (.dict #[⟨(PyData.keyHash P (.ofString "__module__")), (.str (.ofString "__module__") 531), (.str (.ofString "rangepools.errors") 187)⟩, ⟨(PyData.keyHash P (.ofString "__qualname__")), (.str (.ofString "__qualname__") 533), (.str (.ofString "BadAmount") 532)⟩, ⟨(PyData.keyHash P (.ofString "__firstlineno__")), (.str (.ofString "__firstlineno__") 535), (.int (48) 534)⟩, ⟨(PyData.keyHash P (.ofString "__init__")), (.str (.ofString "__init__") 543), (.ref 280)⟩, ⟨(PyData.keyHash P (.ofString "__static_attributes__")), (.str (.ofString "__static_attributes__") 545), (.ref 281)⟩] 5), #[]⟩
def s4o270 : Obj := ⟨(.type "tuple"), none, (.seq #[] 0), #[]⟩
def s4o271 : Obj := ⟨.none, none, (.fields #[(.int (50) 0), (.int (4) 0), (.ref 279)]), #[]⟩
def s4o272 : Obj := ⟨(.type "code"), none, (.fields #[(.str (.ofString "BadAmount") 526), (.str (.ofString "BadAmount") 527), (.str (.ofString "/claim/cut.py") 528), (.int (48) 0), (.int (0) 0), (.int (0) 0), (.int (0) 0), (.int (0) 0), (.ref 270), (.bool false), (.int (181) 0), (.ref 271), .none, .none, .none, .none, (.int (529) 0), (.int (48) 0), (.str (.ofString "/claim/cut.py") 530)]), #[]⟩
def s4o273 : Obj := ⟨(.type "frame"), none, .plain, #[(some (.ref 272)), (some (.ref 3)), (some (.ref 269)), none, (some (.str (.ofString "rangepools.errors") 187)), none, (some (.ref 0))]⟩
def s4o274 : Obj := ⟨(.type "tuple"), none, (.seq #[] 0), #[]⟩
def s4o275 : Obj := ⟨.none, none, (.fields #[]), #[]⟩
def s4o276 : Obj := ⟨(.type "tuple"), none, (.seq #[(.str (.ofString "self") 539), (.str (.ofString "given") 540)] 0), #[]⟩
def s4o277 : Obj := ⟨(.type "tuple"), none, (.seq #[] 0), #[]⟩
def s4o278 : Obj := ⟨.none, none, (.func ⟨(.ofString "__init__"), (.ofString "BadAmount.__init__"), defArgs (inClass (top 19) 0), .stmts (defBody (inClass (top 19) 0)), defScope (inClass (top 19) 0), 0, [], .none, .none, .none, .none, none, .none, .none, 0⟩), #[]⟩
def s4o279 : Obj := ⟨(.type "code"), none, (.fields #[(.str (.ofString "__init__") 536), (.str (.ofString "BadAmount.__init__") 537), (.str (.ofString "/claim/cut.py") 538), (.int (50) 0), (.int (2) 0), (.int (0) 0), (.int (0) 0), (.int (3) 0), (.ref 274), (.bool true), (.int (181) 0), (.ref 275), .none, (.ref 276), (.ref 277), (.ref 278), (.int (541) 0), (.int (50) 0), (.str (.ofString "/claim/cut.py") 542)]), #[]⟩
def s4o280 : Obj := ⟨(.type "function"), none, (.func ⟨(.ofString "__init__"), (.ofString "BadAmount.__init__"), defArgs (inClass (top 19) 0), .stmts (defBody (inClass (top 19) 0)), defScope (inClass (top 19) 0), 3, [], .none, .none, .none, (.str (.ofString "rangepools.errors") 187), none, (.ref 279), .none, 0⟩), #[]⟩
def s4o281 : Obj := ⟨(.type "tuple"), none, (.seq #[(.str (.ofString "given") 544)] 0), #[]⟩
def s4o282 (P : Params) : Obj := ⟨(.type "dict"), none, (.dict #[⟨(PyData.keyHash P (.ofString "__module__")), (.str (.ofString "__module__") 531), (.str (.ofString "rangepools.errors") 187)⟩, ⟨(PyData.keyHash P (.ofString "__firstlineno__")), (.str (.ofString "__firstlineno__") 535), (.int (48) 534)⟩, ⟨(PyData.keyHash P (.ofString "__init__")), (.str (.ofString "__init__") 543), (.ref 280)⟩, ⟨(PyData.keyHash P (.ofString "__static_attributes__")), (.str (.ofString "__static_attributes__") 545), (.ref 281)⟩, ⟨(PyData.keyHash P (.ofString "__doc__")), (.str (.ofString "__doc__") 546), .none⟩] 2), #[]⟩
def s4o283 : Obj := ⟨(.type "type"), none, (.cls ⟨(.ofString "BadAmount"), [(.ref 24)], [(.ref 283), (.ref 24), (.type "ValueError"), (.type "Exception"), (.type "BaseException"), (.type "object")], 282, (.ofString "BadAmount"), true, [], [], false, none, false⟩), #[(some (.ref 267)), none, (some (.str (.ofString "BadAmount") 524)), (some (.str (.ofString "BadAmount") 532)), (some (.builtin "ValueError.__new__")), (some (.bool true))]⟩
def s4o284 : Obj := ⟨(.type "super"), none, (.fields #[(.ref 283), (.ref 283), (.ref 283)]), #[]⟩
def s4o285 : Obj := ⟨(.type "builtin_function_or_method"), none, (.fields #[(.builtin "object.__init_subclass__"), (.ref 283)]), #[]⟩
def s4o286 : Obj := ⟨(.type "tuple"), none, (.seq #[(.ref 24)] 0), #[]⟩
def s4o287 : Obj := ⟨(.type "builtin_function_or_method"), none, (.fields #[(.builtin "type.__prepare__"), (.type "type")]), #[]⟩
def s4o288 (P : Params) : Obj := ⟨(.type "dict"), none, (.dict #[⟨(PyData.keyHash P (.ofString "__module__")), (.str (.ofString "__module__") 556), (.str (.ofString "rangepools.errors") 187)⟩, ⟨(PyData.keyHash P (.ofString "__qualname__")), (.str (.ofString "__qualname__") 558), (.str (.ofString "NoWay") 557)⟩, ⟨(PyData.keyHash P (.ofString "__firstlineno__")), (.str (.ofString "__firstlineno__") 560), (.int (52) 559)⟩, ⟨(PyData.keyHash P (.ofString "__init__")), (.str (.ofString "__init__") 568), (.ref 299)⟩, ⟨(PyData.keyHash P (.ofString "__static_attributes__")), (.str (.ofString "__static_attributes__") 570), (.ref 300)⟩] 5), #[]⟩
def s4o289 : Obj := ⟨(.type "tuple"), none, (.seq #[] 0), #[]⟩
def s4o290 : Obj := ⟨.none, none, (.fields #[(.int (54) 0), (.int (4) 0), (.ref 298)]), #[]⟩
def s4o291 : Obj := ⟨(.type "code"), none, (.fields #[(.str (.ofString "NoWay") 551), (.str (.ofString "NoWay") 552), (.str (.ofString "/claim/cut.py") 553), (.int (52) 0), (.int (0) 0), (.int (0) 0), (.int (0) 0), (.int (0) 0), (.ref 289), (.bool false), (.int (181) 0), (.ref 290), .none, .none, .none, .none, (.int (554) 0), (.int (52) 0), (.str (.ofString "/claim/cut.py") 555)]), #[]⟩
def s4o292 : Obj := ⟨(.type "frame"), none, .plain, #[(some (.ref 291)), (some (.ref 3)), (some (.ref 288)), none, (some (.str (.ofString "rangepools.errors") 187)), none, (some (.ref 0))]⟩
def s4o293 : Obj := ⟨(.type "tuple"), none, (.seq #[] 0), #[]⟩
def s4o294 : Obj := ⟨.none, none, (.fields #[]), #[]⟩
def s4o295 : Obj := ⟨(.type "tuple"), none, (.seq #[(.str (.ofString "self") 564), (.str (.ofString "given") 565)] 0), #[]⟩
def s4o296 : Obj := ⟨(.type "tuple"), none, (.seq #[] 0), #[]⟩
def s4o297 : Obj := ⟨.none, none, (.func ⟨(.ofString "__init__"), (.ofString "NoWay.__init__"), defArgs (inClass (top 20) 0), .stmts (defBody (inClass (top 20) 0)), defScope (inClass (top 20) 0), 0, [], .none, .none, .none, .none, none, .none, .none, 0⟩), #[]⟩
def s4o298 : Obj := ⟨(.type "code"), none, (.fields #[(.str (.ofString "__init__") 561), (.str (.ofString "NoWay.__init__") 562), (.str (.ofString "/claim/cut.py") 563), (.int (54) 0), (.int (2) 0), (.int (0) 0), (.int (0) 0), (.int (3) 0), (.ref 293), (.bool true), (.int (181) 0), (.ref 294), .none, (.ref 295), (.ref 296), (.ref 297), (.int (566) 0), (.int (54) 0), (.str (.ofString "/claim/cut.py") 567)]), #[]⟩
def s4o299 : Obj := ⟨(.type "function"), none, (.func ⟨(.ofString "__init__"), (.ofString "NoWay.__init__"), defArgs (inClass (top 20) 0), .stmts (defBody (inClass (top 20) 0)), defScope (inClass (top 20) 0), 3, [], .none, .none, .none, (.str (.ofString "rangepools.errors") 187), none, (.ref 298), .none, 0⟩), #[]⟩
def s4o300 : Obj := ⟨(.type "tuple"), none, (.seq #[(.str (.ofString "given") 569)] 0), #[]⟩
def s4o301 (P : Params) : Obj := ⟨(.type "dict"), none, (.dict #[⟨(PyData.keyHash P (.ofString "__module__")), (.str (.ofString "__module__") 556), (.str (.ofString "rangepools.errors") 187)⟩, ⟨(PyData.keyHash P (.ofString "__firstlineno__")), (.str (.ofString "__firstlineno__") 560), (.int (52) 559)⟩, ⟨(PyData.keyHash P (.ofString "__init__")), (.str (.ofString "__init__") 568), (.ref 299)⟩, ⟨(PyData.keyHash P (.ofString "__static_attributes__")), (.str (.ofString "__static_attributes__") 570), (.ref 300)⟩, ⟨(PyData.keyHash P (.ofString "__doc__")), (.str (.ofString "__doc__") 571), .none⟩] 2), #[]⟩
def s4o302 : Obj := ⟨(.type "type"), none, (.cls ⟨(.ofString "NoWay"), [(.ref 24)], [(.ref 302), (.ref 24), (.type "ValueError"), (.type "Exception"), (.type "BaseException"), (.type "object")], 301, (.ofString "NoWay"), true, [], [], false, none, false⟩), #[(some (.ref 286)), none, (some (.str (.ofString "NoWay") 549)), (some (.str (.ofString "NoWay") 557)), (some (.builtin "ValueError.__new__")), (some (.bool true))]⟩
def s4o303 : Obj := ⟨(.type "super"), none, (.fields #[(.ref 302), (.ref 302), (.ref 302)]), #[]⟩
def s4o304 : Obj := ⟨(.type "builtin_function_or_method"), none, (.fields #[(.builtin "object.__init_subclass__"), (.ref 302)]), #[]⟩
def s4T (P : Params) : BT := (.node (zo0 P) (.node (zo1 P) (.node (s4o3 P) (.node zo7 (.node s0o15 (.node s0o31 (.node s0o63 (.node s2o127 (.node s4o255 .nil .nil) .nil) (.node s3o191 .nil .nil)) (.node s1o95 (.node s2o159 (.node s4o287 .nil .nil) .nil) (.node s3o223 .nil .nil))) (.node s0o47 (.node s1o79 (.node s2o143 (.node s4o271 .nil .nil) .nil) (.node s3o207 .nil .nil)) (.node s1o111 (.node s3o175 (.node s4o303 .nil .nil) .nil) (.node s4o239 .nil .nil)))) (.node (s0o23 P) (.node s0o39 (.node s1o71 (.node s2o135 (.node (s4o263 P) .nil .nil) .nil) (.node s3o199 .nil .nil)) (.node s1o103 (.node s3o167 (.node s4o295 .nil .nil) .nil) (.node (s4o231 P) .nil .nil))) (.node s0o55 (.node s1o87 (.node s2o151 (.node s4o279 .nil .nil) .nil) (.node s3o215 .nil .nil)) (.node s2o119 (.node s3o183 .nil .nil) (.node s4o247 .nil .nil))))) (.node ao11 (.node s0o19 (.node s0o35 (.node s1o67 (.node s2o131 (.node s4o259 .nil .nil) .nil) (.node s3o195 .nil .nil)) (.node s1o99 (.node s3o163 (.node s4o291 .nil .nil) .nil) (.node s3o227 .nil .nil))) (.node s0o51 (.node s1o83 (.node s2o147 (.node s4o275 .nil .nil) .nil) (.node s3o211 .nil .nil)) (.node s2o115 (.node s3o179 .nil .nil) (.node s4o243 .nil .nil)))) (.node s0o27 (.node s0o43 (.node s1o75 (.node s2o139 (.node s4o267 .nil .nil) .nil) (.node s3o203 .nil .nil)) (.node s1o107 (.node s3o171 (.node s4o299 .nil .nil) .nil) (.node s4o235 .nil .nil))) (.node s0o59 (.node s1o91 (.node s2o155 (.node s4o283 .nil .nil) .nil) (.node s3o219 .nil .nil)) (.node s2o123 (.node (s3o187 P) .nil .nil) (.node s4o251 .nil .nil)))))) (.node zo5 (.node zo9 (.node (s0o17 P) (.node s0o33 (.node s1o65 (.node s2o129 (.node s4o257 .nil .nil) .nil) (.node (s3o193 P) .nil .nil)) (.node s1o97 (.node s3o161 (.node s4o289 .nil .nil) .nil) (.node (s3o225 P) .nil .nil))) (.node s0o49 (.node s1o81 (.node s2o145 (.node s4o273 .nil .nil) .nil) (.node s3o209 .nil .nil)) (.node s2o113 (.node s3o177 .nil .nil) (.node s4o241 .nil .nil)))) (.node s0o25 (.node s0o41 (.node s1o73 (.node s2o137 (.node s4o265 .nil .nil) .nil) (.node s3o201 .nil .nil)) (.node s1o105 (.node s3o169 (.node s4o297 .nil .nil) .nil) (.node s4o233 .nil .nil))) (.node s0o57 (.node s1o89 (.node s2o153 (.node s4o281 .nil .nil) .nil) (.node s3o217 .nil .nil)) (.node s2o121 (.node s3o185 .nil .nil) (.node s4o249 .nil .nil))))) (.node ao13 (.node s0o21 (.node s0o37 (.node s1o69 (.node s2o133 (.node s4o261 .nil .nil) .nil) (.node s3o197 .nil .nil)) (.node s1o101 (.node s3o165 (.node s4o293 .nil .nil) .nil) (.node s4o229 .nil .nil))) (.node s0o53 (.node s1o85 (.node s2o149 (.node s4o277 .nil .nil) .nil) (.node s3o213 .nil .nil)) (.node s2o117 (.node s3o181 .nil .nil) (.node s4o245 .nil .nil)))) (.node s0o29 (.node s0o45 (.node s1o77 (.node s2o141 (.node (s4o269 P) .nil .nil) .nil) (.node s3o205 .nil .nil)) (.node s1o109 (.node s3o173 (.node (s4o301 P) .nil .nil) .nil) (.node s4o237 .nil .nil))) (.node s0o61 (.node s1o93 (.node s2o157 (.node s4o285 .nil .nil) .nil) (.node s3o221 .nil .nil)) (.node s2o125 (.node s3o189 .nil .nil) (.node s4o253 .nil .nil))))))) (.node zo2 (.node zo4 (.node zo8 (.node s0o16 (.node s0o32 (.node s1o64 (.node s2o128 (.node s4o256 .nil .nil) .nil) (.node s3o192 .nil .nil)) (.node (s1o96 P) (.node s3o160 (.node (s4o288 P) .nil .nil) .nil) (.node s3o224 .nil .nil))) (.node (s0o48 P) (.node s1o80 (.node (s2o144 P) (.node s4o272 .nil .nil) .nil) (.node s3o208 .nil .nil)) (.node s2o112 (.node s3o176 (.node s4o304 .nil .nil) .nil) (.node s4o240 .nil .nil)))) (.node s4o24 (.node s0o40 (.node (s1o72 P) (.node s2o136 (.node s4o264 .nil .nil) .nil) (.node s3o200 .nil .nil)) (.node s1o104 (.node (s3o168 P) (.node s4o296 .nil .nil) .nil) (.node s4o232 .nil .nil))) (.node s0o56 (.node s1o88 (.node s2o152 (.node s4o280 .nil .nil) .nil) (.node s3o216 .nil .nil)) (.node (s2o120 P) (.node s3o184 .nil .nil) (.node s4o248 .nil .nil))))) (.node s4o12 (.node s0o20 (.node (s0o36 P) (.node s1o68 (.node (s2o132 P) (.node s4o260 .nil .nil) .nil) (.node s3o196 .nil .nil)) (.node s1o100 (.node s3o164 (.node s4o292 .nil .nil) .nil) (.node s3o228 .nil .nil))) (.node s0o52 (.node (s1o84 P) (.node s2o148 (.node s4o276 .nil .nil) .nil) (.node (s3o212 P) .nil .nil)) (.node s2o116 (.node s3o180 .nil .nil) (.node (s4o244 P) .nil .nil)))) (.node s0o28 (.node s0o44 (.node s1o76 (.node s2o140 (.node s4o268 .nil .nil) .nil) (.node s3o204 .nil .nil)) (.node (s1o108 P) (.node s3o172 (.node s4o300 .nil .nil) .nil) (.node s4o236 .nil .nil))) (.node (s0o60 P) (.node s1o92 (.node (s2o156 P) (.node s4o284 .nil .nil) .nil) (.node s3o220 .nil .nil)) (.node s2o124 (.node s3o188 .nil .nil) (.node s4o252 .nil .nil)))))) (.node zo6 (.node zo10 (.node s0o18 (.node s0o34 (.node (s1o66 P) (.node s2o130 (.node s4o258 .nil .nil) .nil) (.node s3o194 .nil .nil)) (.node s1o98 (.node (s3o162 P) (.node s4o290 .nil .nil) .nil) (.node s3o226 .nil .nil))) (.node s0o50 (.node s1o82 (.node s2o146 (.node s4o274 .nil .nil) .nil) (.node s3o210 .nil .nil)) (.node (s2o114 P) (.node s3o178 .nil .nil) (.node s4o242 .nil .nil)))) (.node s0o26 (.node (s0o42 P) (.node s1o74 (.node (s2o138 P) (.node s4o266 .nil .nil) .nil) (.node s3o202 .nil .nil)) (.node s1o106 (.node s3o170 (.node s4o298 .nil .nil) .nil) (.node s4o234 .nil .nil))) (.node s0o58 (.node (s1o90 P) (.node s2o154 (.node (s4o282 P) .nil .nil) .nil) (.node s3o218 .nil .nil)) (.node s2o122 (.node s3o186 .nil .nil) (.node (s4o250 P) .nil .nil))))) (.node ao14 (.node s0o22 (.node s0o38 (.node s1o70 (.node s2o134 (.node s4o262 .nil .nil) .nil) (.node s3o198 .nil .nil)) (.node (s1o102 P) (.node s3o166 (.node s4o294 .nil .nil) .nil) (.node s4o230 .nil .nil))) (.node (s0o54 P) (.node s1o86 (.node (s2o150 P) (.node s4o278 .nil .nil) .nil) (.node s3o214 .nil .nil)) (.node s2o118 (.node s3o182 .nil .nil) (.node s4o246 .nil .nil)))) (.node (s0o30 P) (.node s0o46 (.node (s1o78 P) (.node s2o142 (.node s4o270 .nil .nil) .nil) (.node (s3o206 P) .nil .nil)) (.node s1o110 (.node (s3o174 P) (.node s4o302 .nil .nil) .nil) (.node s4o238 .nil .nil))) (.node s0o62 (.node s1o94 (.node s2o158 (.node s4o286 .nil .nil) .nil) (.node s3o222 .nil .nil)) (.node (s2o126 P) (.node s3o190 .nil .nil) (.node s4o254 .nil .nil))))))))
def s4 : LH.St := ⟨s4T, 305, #[], ⟨0, 0, 0, 0⟩, 574⟩
def s5o3 (P : Params) : Obj := ⟨(.type "dict"), none, (.dict #[⟨(PyData.keyHash P (.ofString "__name__")), (.str (.ofString "__name__") 165), (.str (.ofString "rangepools.errors") 187)⟩, ⟨(PyData.keyHash P (.ofString "__doc__")), (.str (.ofString "__doc__") 166), .none⟩, ⟨(PyData.keyHash P (.ofString "__package__")), (.str (.ofString "__package__") 167), .none⟩, ⟨(PyData.keyHash P (.ofString "__loader__")), (.str (.ofString "__loader__") 168), (.builtin "__main__.__loader__#opaque")⟩, ⟨(PyData.keyHash P (.ofString "__spec__")), (.str (.ofString "__spec__") 169), .none⟩, ⟨(PyData.keyHash P (.ofString "__annotations__")), (.str (.ofString "__annotations__") 170), (.ref 6)⟩, ⟨(PyData.keyHash P (.ofString "__builtins__")), (.str (.ofString "__builtins__") 171), (.ref 4)⟩, ⟨(PyData.keyHash P (.ofString "__file__")), (.str (.ofString "__file__") 173), (.str (.ofString "/claim/cut.py") 172)⟩, ⟨(PyData.keyHash P (.ofString "__cached__")), (.str (.ofString "__cached__") 174), .none⟩, ⟨(PyData.keyHash P (.ofString "PoolError")), (.str (.ofString "PoolError") 206), (.ref 24)⟩, ⟨(PyData.keyHash P (.ofString "ByZero")), (.str (.ofString "ByZero") 222), (.ref 37)⟩, ⟨(PyData.keyHash P (.ofString "BadText")), (.str (.ofString "BadText") 238), (.ref 49)⟩, ⟨(PyData.keyHash P (.ofString "BadRange")), (.str (.ofString "BadRange") 254), (.ref 61)⟩, ⟨(PyData.keyHash P (.ofString "Lacking")), (.str (.ofString "Lacking") 270), (.ref 73)⟩, ⟨(PyData.keyHash P (.ofString "BadRoute")), (.str (.ofString "BadRoute") 286), (.ref 85)⟩, ⟨(PyData.keyHash P (.ofString "BadSplit")), (.str (.ofString "BadSplit") 302), (.ref 97)⟩, ⟨(PyData.keyHash P (.ofString "BadRing")), (.str (.ofString "BadRing") 318), (.ref 109)⟩, ⟨(PyData.keyHash P (.ofString "TooMuch")), (.str (.ofString "TooMuch") 334), (.ref 121)⟩, ⟨(PyData.keyHash P (.ofString "UnlikeFees")), (.str (.ofString "UnlikeFees") 350), (.ref 133)⟩, ⟨(PyData.keyHash P (.ofString "BadPrices")), (.str (.ofString "BadPrices") 366), (.ref 145)⟩, ⟨(PyData.keyHash P (.ofString "NothingToUndo")), (.str (.ofString "NothingToUndo") 382), (.ref 157)⟩, ⟨(PyData.keyHash P (.ofString "NothingToRedo")), (.str (.ofString "NothingToRedo") 398), (.ref 169)⟩, ⟨(PyData.keyHash P (.ofString "BadNumber")), (.str (.ofString "BadNumber") 423), (.ref 188)⟩, ⟨(PyData.keyHash P (.ofString "BadSize")), (.str (.ofString "BadSize") 448), (.ref 207)⟩, ⟨(PyData.keyHash P (.ofString "BadRoot")), (.str (.ofString "BadRoot") 473), (.ref 226)⟩, ⟨(PyData.keyHash P (.ofString "BadFee")), (.str (.ofString "BadFee") 498), (.ref 245)⟩, ⟨(PyData.keyHash P (.ofString "BadGood")), (.str (.ofString "BadGood") 523), (.ref 264)⟩, ⟨(PyData.keyHash P (.ofString "BadAmount")), (.str (.ofString "BadAmount") 548), (.ref 283)⟩, ⟨(PyData.keyHash P (.ofString "NoWay")), (.str (.ofString "NoWay") 573), (.ref 302)⟩, ⟨(PyData.keyHash P (.ofString "BadName")), (.str (.ofString "BadName") 598), (.ref 321)⟩, ⟨(PyData.keyHash P (.ofString "InUse")), (.str (.ofString "InUse") 623), (.ref 340)⟩, ⟨(PyData.keyHash P (.ofString "NoPosition")), (.str (.ofString "NoPosition") 648), (.ref 359)⟩, ⟨(PyData.keyHash P (.ofString "NoPool")), (.str (.ofString "NoPool") 673), (.ref 378)⟩] 33), #[]⟩
def s5o12 : Obj := ⟨.none, none, (.fields #[(.int (2) 0), (.int (0) 0), (.ref 20), (.int (4) 0), (.int (0) 0), (.ref 33), (.int (6) 0), (.int (0) 0), (.ref 45), (.int (8) 0), (.int (0) 0), (.ref 57), (.int (10) 0), (.int (0) 0), (.ref 69), (.int (12) 0), (.int (0) 0), (.ref 81), (.int (14) 0), (.int (0) 0), (.ref 93), (.int (16) 0), (.int (0) 0), (.ref 105), (.int (18) 0), (.int (0) 0), (.ref 117), (.int (20) 0), (.int (0) 0), (.ref 129), (.int (22) 0), (.int (0) 0), (.ref 141), (.int (24) 0), (.int (0) 0), (.ref 153), (.int (26) 0), (.int (0) 0), (.ref 165), (.int (28) 0), (.int (0) 0), (.ref 177), (.int (32) 0), (.int (0) 0), (.ref 196), (.int (36) 0), (.int (0) 0), (.ref 215), (.int (40) 0), (.int (0) 0), (.ref 234), (.int (44) 0), (.int (0) 0), (.ref 253), (.int (48) 0), (.int (0) 0), (.ref 272), (.int (52) 0), (.int (0) 0), (.ref 291), (.int (56) 0), (.int (0) 0), (.ref 310), (.int (60) 0), (.int (0) 0), (.ref 329), (.int (64) 0), (.int (0) 0), (.ref 348), (.int (68) 0), (.int (0) 0), (.ref 367)]), #[]⟩
def s5o24 : Obj := ⟨(.type "type"), none, (.cls ⟨(.ofString "PoolError"), [(.type "ValueError")], [(.ref 24), (.type "ValueError"), (.type "Exception"), (.type "BaseException"), (.type "object")], 23, (.ofString "PoolError"), true, [], [(.ref 37), (.ref 49), (.ref 61), (.ref 73), (.ref 85), (.ref 97), (.ref 109), (.ref 121), (.ref 133), (.ref 145), (.ref 157), (.ref 169), (.ref 188), (.ref 207), (.ref 226), (.ref 245), (.ref 264), (.ref 283), (.ref 302), (.ref 321), (.ref 340), (.ref 359), (.ref 378)], false, none, false⟩), #[(some (.ref 15)), none, (some (.str (.ofString "PoolError") 189)), (some (.str (.ofString "PoolError") 197)), (some (.builtin "ValueError.__new__")), (some (.bool true))]⟩
def s5o305 : Obj := ⟨(.type "tuple"), none, (.seq #[(.ref 24)] 0), #[]⟩
def s5o306 : Obj := ⟨(.type "builtin_function_or_method"), none, (.fields #[(.builtin "type.__prepare__"), (.type "type")]), #[]⟩
def s5o307 (P : Params) : Obj := ⟨(.type "dict"), none, (.dict #[⟨(PyData.keyHash P (.ofString "__module__")), (.str (.ofString "__module__") 581), (.str (.ofString "rangepools.errors") 187)⟩, ⟨(PyData.keyHash P (.ofString "__qualname__")), (.str (.ofString "__qualname__") 583), (.str (.ofString "BadName") 582)⟩, ⟨(PyData.keyHash P (.ofString "__firstlineno__")), (.str (.ofString "__firstlineno__") 585), (.int (56) 584)⟩, ⟨(PyData.keyHash P (.ofString "__init__")), (.str (.ofString "__init__") 593), (.ref 318)⟩, ⟨(PyData.keyHash P (.ofString "__static_attributes__")), (.str (.ofString "__static_attributes__") 595), (.ref 319)⟩] 5), #[]⟩
def s5o308 : Obj := ⟨(.type "tuple"), none, (.seq #[] 0), #[]⟩
def s5o309 : Obj := ⟨.none, none, (.fields #[(.int (58) 0), (.int (4) 0), (.ref 317)]), #[]⟩
def s5o310 : Obj := ⟨(.type "code"), none, (.fields #[(.str (.ofString "BadName") 576), (.str (.ofString "BadName") 577), (.str (.ofString "/claim/cut.py") 578), (.int (56) 0), (.int (0) 0), (.int (0) 0), (.int (0) 0), (.int (0) 0), (.ref 308), (.bool false), (.int (181) 0), (.ref 309), .none, .none, .none, .none, (.int (579) 0), (.int (56) 0), (.str (.ofString "/claim/cut.py") 580)]), #[]⟩
def s5o311 : Obj := ⟨(.type "frame"), none, .plain, #[(some (.ref 310)), (some (.ref 3)), (some (.ref 307)), none, (some (.str (.ofString "rangepools.errors") 187)), none, (some (.ref 0))]⟩
def s5o312 : Obj := ⟨(.type "tuple"), none, (.seq #[] 0), #[]⟩
def s5o313 : Obj := ⟨.none, none, (.fields #[]), #[]⟩
def s5o314 : Obj := ⟨(.type "tuple"), none, (.seq #[(.str (.ofString "self") 589), (.str (.ofString "given") 590)] 0), #[]⟩
def s5o315 : Obj := ⟨(.type "tuple"), none, (.seq #[] 0), #[]⟩
def s5o316 : Obj := ⟨.none, none, (.func ⟨(.ofString "__init__"), (.ofString "BadName.__init__"), defArgs (inClass (top 21) 0), .stmts (defBody (inClass (top 21) 0)), defScope (inClass (top 21) 0), 0, [], .none, .none, .none, .none, none, .none, .none, 0⟩), #[]⟩
def s5o317 : Obj := ⟨(.type "code"), none, (.fields #[(.str (.ofString "__init__") 586), (.str (.ofString "BadName.__init__") 587), (.str (.ofString "/claim/cut.py") 588), (.int (58) 0), (.int (2) 0), (.int (0) 0), (.int (0) 0), (.int (3) 0), (.ref 312), (.bool true), (.int (181) 0), (.ref 313), .none, (.ref 314), (.ref 315), (.ref 316), (.int (591) 0), (.int (58) 0), (.str (.ofString "/claim/cut.py") 592)]), #[]⟩
def s5o318 : Obj := ⟨(.type "function"), none, (.func ⟨(.ofString "__init__"), (.ofString "BadName.__init__"), defArgs (inClass (top 21) 0), .stmts (defBody (inClass (top 21) 0)), defScope (inClass (top 21) 0), 3, [], .none, .none, .none, (.str (.ofString "rangepools.errors") 187), none, (.ref 317), .none, 0⟩), #[]⟩
def s5o319 : Obj := ⟨(.type "tuple"), none, (.seq #[(.str (.ofString "given") 594)] 0), #[]⟩
def s5o320 (P : Params) : Obj := ⟨(.type "dict"), none, (.dict #[⟨(PyData.keyHash P (.ofString "__module__")), (.str (.ofString "__module__") 581), (.str (.ofString "rangepools.errors") 187)⟩, ⟨(PyData.keyHash P (.ofString "__firstlineno__")), (.str (.ofString "__firstlineno__") 585), (.int (56) 584)⟩, ⟨(PyData.keyHash P (.ofString "__init__")), (.str (.ofString "__init__") 593), (.ref 318)⟩, ⟨(PyData.keyHash P (.ofString "__static_attributes__")), (.str (.ofString "__static_attributes__") 595), (.ref 319)⟩, ⟨(PyData.keyHash P (.ofString "__doc__")), (.str (.ofString "__doc__") 596), .none⟩] 2), #[]⟩
def s5o321 : Obj := ⟨(.type "type"), none, (.cls ⟨(.ofString "BadName"), [(.ref 24)], [(.ref 321), (.ref 24), (.type "ValueError"), (.type "Exception"), (.type "BaseException"), (.type "object")], 320, (.ofString "BadName"), true, [], [], false, none, false⟩), #[(some (.ref 305)), none, (some (.str (.ofString "BadName") 574)), (some (.str (.ofString "BadName") 582)), (some (.builtin "ValueError.__new__")), (some (.bool true))]⟩
def s5o322 : Obj := ⟨(.type "super"), none, (.fields #[(.ref 321), (.ref 321), (.ref 321)]), #[]⟩
def s5o323 : Obj := ⟨(.type "builtin_function_or_method"), none, (.fields #[(.builtin "object.__init_subclass__"), (.ref 321)]), #[]⟩
def s5o324 : Obj := ⟨(.type "tuple"), none, (.seq #[(.ref 24)] 0), #[]⟩
def s5o325 : Obj := ⟨(.type "builtin_function_or_method"), none, (.fields #[(.builtin "type.__prepare__"), (.type "type")]), #[]⟩
def s5o326 (P : Params) : Obj := ⟨(.type "dict"), none, (.dict #[⟨(PyData.keyHash P (.ofString "__module__")), (.str (.ofString "__module__") 606), (.str (.ofString "rangepools.errors") 187)⟩, ⟨(PyData.keyHash P (.ofString "__qualname__")), (.str (.ofString "__qualname__") 608), (.str (.ofString "InUse") 607)⟩, ⟨(PyData.keyHash P (.ofString "__firstlineno__")), (.str (.ofString "__firstlineno__") 610), (.int (60) 609)⟩, ⟨(PyData.keyHash P (.ofString "__init__")), (.str (.ofString "__init__") 618), (.ref 337)⟩, ⟨(PyData.keyHash P (.ofString "__static_attributes__")), (.str (.ofString "__static_attributes__") 620), (.ref 338)⟩] 5), #[]⟩
def s5o327 : Obj := ⟨(.type "tuple"), none, (.seq #[] 0), #[]⟩
def s5o328 : Obj := ⟨.none, none, (.fields #[(.int (62) 0), (.int (4) 0), (.ref 336)]), #[]⟩
def s5o329 : Obj := ⟨(.type "code"), none, (.fields #[(.str (.ofString "InUse") 601), (.str (.ofString "InUse") 602), (.str (.ofString "/claim/cut.py") 603), (.int (60) 0), (.int (0) 0), (.int (0) 0), (.int (0) 0), (.int (0) 0), (.ref 327), (.bool false), (.int (181) 0), (.ref 328), .none, .none, .none, .none, (.int (604) 0), (.int (60) 0), (.str (.ofString "/claim/cut.py") 605)]), #[]⟩
def s5o330 : Obj := ⟨(.type "frame"), none, .plain, #[(some (.ref 329)), (some (.ref 3)), (some (.ref 326)), none, (some (.str (.ofString "rangepools.errors") 187)), none, (some (.ref 0))]⟩
def s5o331 : Obj := ⟨(.type "tuple"), none, (.seq #[] 0), #[]⟩
def s5o332 : Obj := ⟨.none, none, (.fields #[]), #[]⟩
def s5o333 : Obj := ⟨(.type "tuple"), none, (.seq #[(.str (.ofString "self") 614), (.str (.ofString "given") 615)] 0), #[]⟩
def s5o334 : Obj := ⟨(.type "tuple"), none, (.seq #[] 0), #[]⟩
def s5o335 : Obj := ⟨.none, none, (.func ⟨(.ofString "__init__"), (.ofString "InUse.__init__"), defArgs (inClass (top 22) 0), .stmts (defBody (inClass (top 22) 0)), defScope (inClass (top 22) 0), 0, [], .none, .none, .none, .none, none, .none, .none, 0⟩), #[]⟩
def s5o336 : Obj := ⟨(.type "code"), none, (.fields #[(.str (.ofString "__init__") 611), (.str (.ofString "InUse.__init__") 612), (.str (.ofString "/claim/cut.py") 613), (.int (62) 0), (.int (2) 0), (.int (0) 0), (.int (0) 0), (.int (3) 0), (.ref 331), (.bool true), (.int (181) 0), (.ref 332), .none, (.ref 333), (.ref 334), (.ref 335), (.int (616) 0), (.int (62) 0), (.str (.ofString "/claim/cut.py") 617)]), #[]⟩
def s5o337 : Obj := ⟨(.type "function"), none, (.func ⟨(.ofString "__init__"), (.ofString "InUse.__init__"), defArgs (inClass (top 22) 0), .stmts (defBody (inClass (top 22) 0)), defScope (inClass (top 22) 0), 3, [], .none, .none, .none, (.str (.ofString "rangepools.errors") 187), none, (.ref 336), .none, 0⟩), #[]⟩
def s5o338 : Obj := ⟨(.type "tuple"), none, (.seq #[(.str (.ofString "given") 619)] 0), #[]⟩
def s5o339 (P : Params) : Obj := ⟨(.type "dict"), none, (.dict #[⟨(PyData.keyHash P (.ofString "__module__")), (.str (.ofString "__module__") 606), (.str (.ofString "rangepools.errors") 187)⟩, ⟨(PyData.keyHash P (.ofString "__firstlineno__")), (.str (.ofString "__firstlineno__") 610), (.int (60) 609)⟩, ⟨(PyData.keyHash P (.ofString "__init__")), (.str (.ofString "__init__") 618), (.ref 337)⟩, ⟨(PyData.keyHash P (.ofString "__static_attributes__")), (.str (.ofString "__static_attributes__") 620), (.ref 338)⟩, ⟨(PyData.keyHash P (.ofString "__doc__")), (.str (.ofString "__doc__") 621), .none⟩] 2), #[]⟩
def s5o340 : Obj := ⟨(.type "type"), none, (.cls ⟨(.ofString "InUse"), [(.ref 24)], [(.ref 340), (.ref 24), (.type "ValueError"), (.type "Exception"), (.type "BaseException"), (.type "object")], 339, (.ofString "InUse"), true, [], [], false, none, false⟩), #[(some (.ref 324)), none, (some (.str (.ofString "InUse") 599)), (some (.str (.ofString "InUse") 607)), (some (.builtin "ValueError.__new__")), (some (.bool true))]⟩
def s5o341 : Obj := ⟨(.type "super"), none, (.fields #[(.ref 340), (.ref 340), (.ref 340)]), #[]⟩
def s5o342 : Obj := ⟨(.type "builtin_function_or_method"), none, (.fields #[(.builtin "object.__init_subclass__"), (.ref 340)]), #[]⟩
def s5o343 : Obj := ⟨(.type "tuple"), none, (.seq #[(.ref 24)] 0), #[]⟩
def s5o344 : Obj := ⟨(.type "builtin_function_or_method"), none, (.fields #[(.builtin "type.__prepare__"), (.type "type")]), #[]⟩
def s5o345 (P : Params) : Obj := ⟨(.type "dict"), none, (.dict #[⟨(PyData.keyHash P (.ofString "__module__")), (.str (.ofString "__module__") 631), (.str (.ofString "rangepools.errors") 187)⟩, ⟨(PyData.keyHash P (.ofString "__qualname__")), (.str (.ofString "__qualname__") 633), (.str (.ofString "NoPosition") 632)⟩, ⟨(PyData.keyHash P (.ofString "__firstlineno__")), (.str (.ofString "__firstlineno__") 635), (.int (64) 634)⟩, ⟨(PyData.keyHash P (.ofString "__init__")), (.str (.ofString "__init__") 643), (.ref 356)⟩, ⟨(PyData.keyHash P (.ofString "__static_attributes__")), (.str (.ofString "__static_attributes__") 645), (.ref 357)⟩] 5), #[]⟩
def s5o346 : Obj := ⟨(.type "tuple"), none, (.seq #[] 0), #[]⟩
def s5o347 : Obj := ⟨.none, none, (.fields #[(.int (66) 0), (.int (4) 0), (.ref 355)]), #[]⟩
def s5o348 : Obj := ⟨(.type "code"), none, (.fields #[(.str (.ofString "NoPosition") 626), (.str (.ofString "NoPosition") 627), (.str (.ofString "/claim/cut.py") 628), (.int (64) 0), (.int (0) 0), (.int (0) 0), (.int (0) 0), (.int (0) 0), (.ref 346), (.bool false), (.int (181) 0), (.ref 347), .none, .none, .none, .none, (.int (629) 0), (.int (64) 0), (.str (.ofString "/claim/cut.py") 630)]), #[]⟩
def s5o349 : Obj := ⟨(.type "frame"), none, .plain, #[(some (.ref 348)), (some (.ref 3)), (some (.ref 345)), none, (some (.str (.ofString "rangepools.errors") 187)), none, (some (.ref 0))]⟩
def s5o350 : Obj := ⟨(.type "tuple"), none, (.seq #[] 0), #[]⟩
def s5o351 : Obj := ⟨.none, none, (.fields #[]), #[]⟩
def s5o352 : Obj := ⟨(.type "tuple"), none, (.seq #[(.str (.ofString "self") 639), (.str (.ofString "given") 640)] 0), #[]⟩
def s5o353 : Obj := ⟨(.type "tuple"), none, (.seq #[] 0), #[]⟩
def s5o354 : Obj := ⟨.none, none, (.func ⟨(.ofString "__init__"), (.ofString "NoPosition.__init__"), defArgs (inClass (top 23) 0), .stmts (defBody (inClass (top 23) 0)), defScope (inClass (top 23) 0), 0, [], .none, .none, .none, .none, none, .none, .none, 0⟩), #[]⟩
def s5o355 : Obj := ⟨(.type "code"), none, (.fields #[(.str (.ofString "__init__") 636), (.str (.ofString "NoPosition.__init__") 637), (.str (.ofString "/claim/cut.py") 638), (.int (66) 0), (.int (2) 0), (.int (0) 0), (.int (0) 0), (.int (3) 0), (.ref 350), (.bool true), (.int (181) 0), (.ref 351), .none, (.ref 352), (.ref 353), (.ref 354), (.int (641) 0), (.int (66) 0), (.str (.ofString "/claim/cut.py") 642)]), #[]⟩
def s5o356 : Obj := ⟨(.type "function"), none, (.func ⟨(.ofString "__init__"), (.ofString "NoPosition.__init__"), defArgs (inClass (top 23) 0), .stmts (defBody (inClass (top 23) 0)), defScope (inClass (top 23) 0), 3, [], .none, .none, .none, (.str (.ofString "rangepools.errors") 187), none, (.ref 355), .none, 0⟩), #[]⟩
def s5o357 : Obj := ⟨(.type "tuple"), none, (.seq #[(.str (.ofString "given") 644)] 0), #[]⟩
def s5o358 (P : Params) : Obj := ⟨(.type "dict"), none, (.dict #[⟨(PyData.keyHash P (.ofString "__module__")), (.str (.ofString "__module__") 631), (.str (.ofString "rangepools.errors") 187)⟩, ⟨(PyData.keyHash P (.ofString "__firstlineno__")), (.str (.ofString "__firstlineno__") 635), (.int (64) 634)⟩, ⟨(PyData.keyHash P (.ofString "__init__")), (.str (.ofString "__init__") 643), (.ref 356)⟩, ⟨(PyData.keyHash P (.ofString "__static_attributes__")), (.str (.ofString "__static_attributes__") 645), (.ref 357)⟩, ⟨(PyData.keyHash P (.ofString "__doc__")), (.str (.ofString "__doc__") 646), .none⟩] 2), #[]⟩
def s5o359 : Obj := ⟨(.type "type"), none, (.cls ⟨(.ofString "NoPosition"), [(.ref 24)], [(.ref 359), (.ref 24), (.type "ValueError"), (.type "Exception"), (.type "BaseException"), (.type "object")], 358, (.ofString "NoPosition"), true, [], [], false, none, false⟩), #[(some (.ref 343)), none, (some (.str (.ofString "NoPosition") 624)), (some (.str (.ofString "NoPosition") 632)), (some (.builtin "ValueError.__new__")), (some (.bool true))]⟩
def s5o360 : Obj := ⟨(.type "super"), none, (.fields #[(.ref 359), (.ref 359), (.ref 359)]), #[]⟩
def s5o361 : Obj := ⟨(.type "builtin_function_or_method"), none, (.fields #[(.builtin "object.__init_subclass__"), (.ref 359)]), #[]⟩
def s5o362 : Obj := ⟨(.type "tuple"), none, (.seq #[(.ref 24)] 0), #[]⟩
def s5o363 : Obj := ⟨(.type "builtin_function_or_method"), none, (.fields #[(.builtin "type.__prepare__"), (.type "type")]), #[]⟩
def s5o364 (P : Params) : Obj := ⟨(.type "dict"), none, (.dict #[⟨(PyData.keyHash P (.ofString "__module__")), (.str (.ofString "__module__") 656), (.str (.ofString "rangepools.errors") 187)⟩, ⟨(PyData.keyHash P (.ofString "__qualname__")), (.str (.ofString "__qualname__") 658), (.str (.ofString "NoPool") 657)⟩, ⟨(PyData.keyHash P (.ofString "__firstlineno__")), (.str (.ofString "__firstlineno__") 660), (.int (68) 659)⟩, ⟨(PyData.keyHash P (.ofString "__init__")), (.str (.ofString "__init__") 668), (.ref 375)⟩, ⟨(PyData.keyHash P (.ofString "__static_attributes__")), (.str (.ofString "__static_attributes__") 670), (.ref 376)⟩] 5), #[]⟩
def s5o365 : Obj := ⟨(.type "tuple"), none, (.seq #[] 0), #[]⟩
def s5o366 : Obj := ⟨.none, none, (.fields #[(.int (70) 0), (.int (4) 0), (.ref 374)]), #[]⟩
def s5o367 : Obj := ⟨(.type "code"), none, (.fields #[(.str (.ofString "NoPool") 651), (.str (.ofString "NoPool") 652), (.str (.ofString "/claim/cut.py") 653), (.int (68) 0), (.int (0) 0), (.int (0) 0), (.int (0) 0), (.int (0) 0), (.ref 365), (.bool false), (.int (181) 0), (.ref 366), .none, .none, .none, .none, (.int (654) 0), (.int (68) 0), (.str (.ofString "/claim/cut.py") 655)]), #[]⟩
def s5o368 : Obj := ⟨(.type "frame"), none, .plain, #[(some (.ref 367)), (some (.ref 3)), (some (.ref 364)), none, (some (.str (.ofString "rangepools.errors") 187)), none, (some (.ref 0))]⟩
def s5o369 : Obj := ⟨(.type "tuple"), none, (.seq #[] 0), #[]⟩
def s5o370 : Obj := ⟨.none, none, (.fields #[]), #[]⟩
def s5o371 : Obj := ⟨(.type "tuple"), none, (.seq #[(.str (.ofString "self") 664), (.str (.ofString "given") 665)] 0), #[]⟩
def s5o372 : Obj := ⟨(.type "tuple"), none, (.seq #[] 0), #[]⟩
def s5o373 : Obj := ⟨.none, none, (.func ⟨(.ofString "__init__"), (.ofString "NoPool.__init__"), defArgs (inClass (top 24) 0), .stmts (defBody (inClass (top 24) 0)), defScope (inClass (top 24) 0), 0, [], .none, .none, .none, .none, none, .none, .none, 0⟩), #[]⟩
def s5o374 : Obj := ⟨(.type "code"), none, (.fields #[(.str (.ofString "__init__") 661), (.str (.ofString "NoPool.__init__") 662), (.str (.ofString "/claim/cut.py") 663), (.int (70) 0), (.int (2) 0), (.int (0) 0), (.int (0) 0), (.int (3) 0), (.ref 369), (.bool true), (.int (181) 0), (.ref 370), .none, (.ref 371), (.ref 372), (.ref 373), (.int (666) 0), (.int (70) 0), (.str (.ofString "/claim/cut.py") 667)]), #[]⟩
def s5o375 : Obj := ⟨(.type "function"), none, (.func ⟨(.ofString "__init__"), (.ofString "NoPool.__init__"), defArgs (inClass (top 24) 0), .stmts (defBody (inClass (top 24) 0)), defScope (inClass (top 24) 0), 3, [], .none, .none, .none, (.str (.ofString "rangepools.errors") 187), none, (.ref 374), .none, 0⟩), #[]⟩
def s5o376 : Obj := ⟨(.type "tuple"), none, (.seq #[(.str (.ofString "given") 669)] 0), #[]⟩
def s5o377 (P : Params) : Obj := ⟨(.type "dict"), none, (.dict #[⟨(PyData.keyHash P (.ofString "__module__")), (.str (.ofString "__module__") 656), (.str (.ofString "rangepools.errors") 187)⟩, ⟨(PyData.keyHash P (.ofString "__firstlineno__")), (.str (.ofString "__firstlineno__") 660), (.int (68) 659)⟩, ⟨(PyData.keyHash P (.ofString "__init__")), (.str (.ofString "__init__") 668), (.ref 375)⟩, ⟨(PyData.keyHash P (.ofString "__static_attributes__")), (.str (.ofString "__static_attributes__") 670), (.ref 376)⟩, ⟨(PyData.keyHash P (.ofString "__doc__")), (.str (.ofString "__doc__") 671), .none⟩] 2), #[]⟩
def s5o378 : Obj := ⟨(.type "type"), none, (.cls ⟨(.ofString "NoPool"), [(.ref 24)], [(.ref 378), (.ref 24), (.type "ValueError"), (.type "Exception"), (.type "BaseException"), (.type "object")], 377, (.ofString "NoPool"), true, [], [], false, none, false⟩), #[(some (.ref 362)), none, (some (.str (.ofString "NoPool") 649)), (some (.str (.ofString "NoPool") 657)), (some (.builtin "ValueError.__new__")), (some (.bool true))]⟩
def s5o379 : Obj := ⟨(.type "super"), none, (.fields #[(.ref 378), (.ref 378), (.ref 378)]), #[]⟩
def s5o380 : Obj := ⟨(.type "builtin_function_or_method"), none, (.fields #[(.builtin "object.__init_subclass__"), (.ref 378)]), #[]⟩
def s5T (P : Params) : BT := (.node (zo0 P) (.node (zo1 P) (.node (s5o3 P) (.node zo7 (.node s0o15 (.node s0o31 (.node s0o63 (.node s2o127 (.node s4o255 .nil .nil) .nil) (.node s3o191 (.node s5o319 .nil .nil) .nil)) (.node s1o95 (.node s2o159 (.node s4o287 .nil .nil) .nil) (.node s3o223 (.node s5o351 .nil .nil) .nil))) (.node s0o47 (.node s1o79 (.node s2o143 (.node s4o271 .nil .nil) .nil) (.node s3o207 (.node s5o335 .nil .nil) .nil)) (.node s1o111 (.node s3o175 (.node s4o303 .nil .nil) .nil) (.node s4o239 (.node s5o367 .nil .nil) .nil)))) (.node (s0o23 P) (.node s0o39 (.node s1o71 (.node s2o135 (.node (s4o263 P) .nil .nil) .nil) (.node s3o199 (.node s5o327 .nil .nil) .nil)) (.node s1o103 (.node s3o167 (.node s4o295 .nil .nil) .nil) (.node (s4o231 P) (.node s5o359 .nil .nil) .nil))) (.node s0o55 (.node s1o87 (.node s2o151 (.node s4o279 .nil .nil) .nil) (.node s3o215 (.node s5o343 .nil .nil) .nil)) (.node s2o119 (.node s3o183 (.node s5o311 .nil .nil) .nil) (.node s4o247 (.node s5o375 .nil .nil) .nil))))) (.node ao11 (.node s0o19 (.node s0o35 (.node s1o67 (.node s2o131 (.node s4o259 .nil .nil) .nil) (.node s3o195 (.node s5o323 .nil .nil) .nil)) (.node s1o99 (.node s3o163 (.node s4o291 .nil .nil) .nil) (.node s3o227 (.node s5o355 .nil .nil) .nil))) (.node s0o51 (.node s1o83 (.node s2o147 (.node s4o275 .nil .nil) .nil) (.node s3o211 (.node (s5o339 P) .nil .nil) .nil)) (.node s2o115 (.node s3o179 (.node (s5o307 P) .nil .nil) .nil) (.node s4o243 (.node s5o371 .nil .nil) .nil)))) (.node s0o27 (.node s0o43 (.node s1o75 (.node s2o139 (.node s4o267 .nil .nil) .nil) (.node s3o203 (.node s5o331 .nil .nil) .nil)) (.node s1o107 (.node s3o171 (.node s4o299 .nil .nil) .nil) (.node s4o235 (.node s5o363 .nil .nil) .nil))) (.node s0o59 (.node s1o91 (.node s2o155 (.node s4o283 .nil .nil) .nil) (.node s3o219 (.node s5o347 .nil .nil) .nil)) (.node s2o123 (.node (s3o187 P) (.node s5o315 .nil .nil) .nil) (.node s4o251 (.node s5o379 .nil .nil) .nil)))))) (.node zo5 (.node zo9 (.node (s0o17 P) (.node s0o33 (.node s1o65 (.node s2o129 (.node s4o257 .nil .nil) .nil) (.node (s3o193 P) (.node s5o321 .nil .nil) .nil)) (.node s1o97 (.node s3o161 (.node s4o289 .nil .nil) .nil) (.node (s3o225 P) (.node s5o353 .nil .nil) .nil))) (.node s0o49 (.node s1o81 (.node s2o145 (.node s4o273 .nil .nil) .nil) (.node s3o209 (.node s5o337 .nil .nil) .nil)) (.node s2o113 (.node s3o177 (.node s5o305 .nil .nil) .nil) (.node s4o241 (.node s5o369 .nil .nil) .nil)))) (.node s0o25 (.node s0o41 (.node s1o73 (.node s2o137 (.node s4o265 .nil .nil) .nil) (.node s3o201 (.node s5o329 .nil .nil) .nil)) (.node s1o105 (.node s3o169 (.node s4o297 .nil .nil) .nil) (.node s4o233 (.node s5o361 .nil .nil) .nil))) (.node s0o57 (.node s1o89 (.node s2o153 (.node s4o281 .nil .nil) .nil) (.node s3o217 (.node (s5o345 P) .nil .nil) .nil)) (.node s2o121 (.node s3o185 (.node s5o313 .nil .nil) .nil) (.node s4o249 (.node (s5o377 P) .nil .nil) .nil))))) (.node ao13 (.node s0o21 (.node s0o37 (.node s1o69 (.node s2o133 (.node s4o261 .nil .nil) .nil) (.node s3o197 (.node s5o325 .nil .nil) .nil)) (.node s1o101 (.node s3o165 (.node s4o293 .nil .nil) .nil) (.node s4o229 (.node s5o357 .nil .nil) .nil))) (.node s0o53 (.node s1o85 (.node s2o149 (.node s4o277 .nil .nil) .nil) (.node s3o213 (.node s5o341 .nil .nil) .nil)) (.node s2o117 (.node s3o181 (.node s5o309 .nil .nil) .nil) (.node s4o245 (.node s5o373 .nil .nil) .nil)))) (.node s0o29 (.node s0o45 (.node s1o77 (.node s2o141 (.node (s4o269 P) .nil .nil) .nil) (.node s3o205 (.node s5o333 .nil .nil) .nil)) (.node s1o109 (.node s3o173 (.node (s4o301 P) .nil .nil) .nil) (.node s4o237 (.node s5o365 .nil .nil) .nil))) (.node s0o61 (.node s1o93 (.node s2o157 (.node s4o285 .nil .nil) .nil) (.node s3o221 (.node s5o349 .nil .nil) .nil)) (.node s2o125 (.node s3o189 (.node s5o317 .nil .nil) .nil) (.node s4o253 .nil .nil))))))) (.node zo2 (.node zo4 (.node zo8 (.node s0o16 (.node s0o32 (.node s1o64 (.node s2o128 (.node s4o256 .nil .nil) .nil) (.node s3o192 (.node (s5o320 P) .nil .nil) .nil)) (.node (s1o96 P) (.node s3o160 (.node (s4o288 P) .nil .nil) .nil) (.node s3o224 (.node s5o352 .nil .nil) .nil))) (.node (s0o48 P) (.node s1o80 (.node (s2o144 P) (.node s4o272 .nil .nil) .nil) (.node s3o208 (.node s5o336 .nil .nil) .nil)) (.node s2o112 (.node s3o176 (.node s4o304 .nil .nil) .nil) (.node s4o240 (.node s5o368 .nil .nil) .nil)))) (.node s5o24 (.node s0o40 (.node (s1o72 P) (.node s2o136 (.node s4o264 .nil .nil) .nil) (.node s3o200 (.node s5o328 .nil .nil) .nil)) (.node s1o104 (.node (s3o168 P) (.node s4o296 .nil .nil) .nil) (.node s4o232 (.node s5o360 .nil .nil) .nil))) (.node s0o56 (.node s1o88 (.node s2o152 (.node s4o280 .nil .nil) .nil) (.node s3o216 (.node s5o344 .nil .nil) .nil)) (.node (s2o120 P) (.node s3o184 (.node s5o312 .nil .nil) .nil) (.node s4o248 (.node s5o376 .nil .nil) .nil))))) (.node s5o12 (.node s0o20 (.node (s0o36 P) (.node s1o68 (.node (s2o132 P) (.node s4o260 .nil .nil) .nil) (.node s3o196 (.node s5o324 .nil .nil) .nil)) (.node s1o100 (.node s3o164 (.node s4o292 .nil .nil) .nil) (.node s3o228 (.node s5o356 .nil .nil) .nil))) (.node s0o52 (.node (s1o84 P) (.node s2o148 (.node s4o276 .nil .nil) .nil) (.node (s3o212 P) (.node s5o340 .nil .nil) .nil)) (.node s2o116 (.node s3o180 (.node s5o308 .nil .nil) .nil) (.node (s4o244 P) (.node s5o372 .nil .nil) .nil)))) (.node s0o28 (.node s0o44 (.node s1o76 (.node s2o140 (.node s4o268 .nil .nil) .nil) (.node s3o204 (.node s5o332 .nil .nil) .nil)) (.node (s1o108 P) (.node s3o172 (.node s4o300 .nil .nil) .nil) (.node s4o236 (.node (s5o364 P) .nil .nil) .nil))) (.node (s0o60 P) (.node s1o92 (.node (s2o156 P) (.node s4o284 .nil .nil) .nil) (.node s3o220 (.node s5o348 .nil .nil) .nil)) (.node s2o124 (.node s3o188 (.node s5o316 .nil .nil) .nil) (.node s4o252 (.node s5o380 .nil .nil) .nil)))))) (.node zo6 (.node zo10 (.node s0o18 (.node s0o34 (.node (s1o66 P) (.node s2o130 (.node s4o258 .nil .nil) .nil) (.node s3o194 (.node s5o322 .nil .nil) .nil)) (.node s1o98 (.node (s3o162 P) (.node s4o290 .nil .nil) .nil) (.node s3o226 (.node s5o354 .nil .nil) .nil))) (.node s0o50 (.node s1o82 (.node s2o146 (.node s4o274 .nil .nil) .nil) (.node s3o210 (.node s5o338 .nil .nil) .nil)) (.node (s2o114 P) (.node s3o178 (.node s5o306 .nil .nil) .nil) (.node s4o242 (.node s5o370 .nil .nil) .nil)))) (.node s0o26 (.node (s0o42 P) (.node s1o74 (.node (s2o138 P) (.node s4o266 .nil .nil) .nil) (.node s3o202 (.node s5o330 .nil .nil) .nil)) (.node s1o106 (.node s3o170 (.node s4o298 .nil .nil) .nil) (.node s4o234 (.node s5o362 .nil .nil) .nil))) (.node s0o58 (.node (s1o90 P) (.node s2o154 (.node (s4o282 P) .nil .nil) .nil) (.node s3o218 (.node s5o346 .nil .nil) .nil)) (.node s2o122 (.node s3o186 (.node s5o314 .nil .nil) .nil) (.node (s4o250 P) (.node s5o378 .nil .nil) .nil))))) (.node ao14 (.node s0o22 (.node s0o38 (.node s1o70 (.node s2o134 (.node s4o262 .nil .nil) .nil) (.node s3o198 (.node (s5o326 P) .nil .nil) .nil)) (.node (s1o102 P) (.node s3o166 (.node s4o294 .nil .nil) .nil) (.node s4o230 (.node (s5o358 P) .nil .nil) .nil))) (.node (s0o54 P) (.node s1o86 (.node (s2o150 P) (.node s4o278 .nil .nil) .nil) (.node s3o214 (.node s5o342 .nil .nil) .nil)) (.node s2o118 (.node s3o182 (.node s5o310 .nil .nil) .nil) (.node s4o246 (.node s5o374 .nil .nil) .nil)))) (.node (s0o30 P) (.node s0o46 (.node (s1o78 P) (.node s2o142 (.node s4o270 .nil .nil) .nil) (.node (s3o206 P) (.node s5o334 .nil .nil) .nil)) (.node s1o110 (.node (s3o174 P) (.node s4o302 .nil .nil) .nil) (.node s4o238 (.node s5o366 .nil .nil) .nil))) (.node s0o62 (.node s1o94 (.node s2o158 (.node s4o286 .nil .nil) .nil) (.node s3o222 (.node s5o350 .nil .nil) .nil)) (.node (s2o126 P) (.node s3o190 (.node s5o318 .nil .nil) .nil) (.node s4o254 .nil .nil))))))))
def s5 : LH.St := ⟨s5T, 381, #[], ⟨0, 0, 0, 0⟩, 674⟩
def s6o3 (P : Params) : Obj := ⟨(.type "dict"), none, (.dict #[⟨(PyData.keyHash P (.ofString "__name__")), (.str (.ofString "__name__") 165), (.str (.ofString "rangepools.errors") 187)⟩, ⟨(PyData.keyHash P (.ofString "__doc__")), (.str (.ofString "__doc__") 166), .none⟩, ⟨(PyData.keyHash P (.ofString "__package__")), (.str (.ofString "__package__") 167), .none⟩, ⟨(PyData.keyHash P (.ofString "__loader__")), (.str (.ofString "__loader__") 168), (.builtin "__main__.__loader__#opaque")⟩, ⟨(PyData.keyHash P (.ofString "__spec__")), (.str (.ofString "__spec__") 169), .none⟩, ⟨(PyData.keyHash P (.ofString "__annotations__")), (.str (.ofString "__annotations__") 170), (.ref 6)⟩, ⟨(PyData.keyHash P (.ofString "__builtins__")), (.str (.ofString "__builtins__") 171), (.ref 4)⟩, ⟨(PyData.keyHash P (.ofString "__file__")), (.str (.ofString "__file__") 173), (.str (.ofString "/claim/cut.py") 172)⟩, ⟨(PyData.keyHash P (.ofString "__cached__")), (.str (.ofString "__cached__") 174), .none⟩, ⟨(PyData.keyHash P (.ofString "PoolError")), (.str (.ofString "PoolError") 206), (.ref 24)⟩, ⟨(PyData.keyHash P (.ofString "ByZero")), (.str (.ofString "ByZero") 222), (.ref 37)⟩, ⟨(PyData.keyHash P (.ofString "BadText")), (.str (.ofString "BadText") 238), (.ref 49)⟩, ⟨(PyData.keyHash P (.ofString "BadRange")), (.str (.ofString "BadRange") 254), (.ref 61)⟩, ⟨(PyData.keyHash P (.ofString "Lacking")), (.str (.ofString "Lacking") 270), (.ref 73)⟩, ⟨(PyData.keyHash P (.ofString "BadRoute")), (.str (.ofString "BadRoute") 286), (.ref 85)⟩, ⟨(PyData.keyHash P (.ofString "BadSplit")), (.str (.ofString "BadSplit") 302), (.ref 97)⟩, ⟨(PyData.keyHash P (.ofString "BadRing")), (.str (.ofString "BadRing") 318), (.ref 109)⟩, ⟨(PyData.keyHash P (.ofString "TooMuch")), (.str (.ofString "TooMuch") 334), (.ref 121)⟩, ⟨(PyData.keyHash P (.ofString "UnlikeFees")), (.str (.ofString "UnlikeFees") 350), (.ref 133)⟩, ⟨(PyData.keyHash P (.ofString "BadPrices")), (.str (.ofString "BadPrices") 366), (.ref 145)⟩, ⟨(PyData.keyHash P (.ofString "NothingToUndo")), (.str (.ofString "NothingToUndo") 382), (.ref 157)⟩, ⟨(PyData.keyHash P (.ofString "NothingToRedo")), (.str (.ofString "NothingToRedo") 398), (.ref 169)⟩, ⟨(PyData.keyHash P (.ofString "BadNumber")), (.str (.ofString "BadNumber") 423), (.ref 188)⟩, ⟨(PyData.keyHash P (.ofString "BadSize")), (.str (.ofString "BadSize") 448), (.ref 207)⟩, ⟨(PyData.keyHash P (.ofString "BadRoot")), (.str (.ofString "BadRoot") 473), (.ref 226)⟩, ⟨(PyData.keyHash P (.ofString "BadFee")), (.str (.ofString "BadFee") 498), (.ref 245)⟩, ⟨(PyData.keyHash P (.ofString "BadGood")), (.str (.ofString "BadGood") 523), (.ref 264)⟩, ⟨(PyData.keyHash P (.ofString "BadAmount")), (.str (.ofString "BadAmount") 548), (.ref 283)⟩, ⟨(PyData.keyHash P (.ofString "NoWay")), (.str (.ofString "NoWay") 573), (.ref 302)⟩, ⟨(PyData.keyHash P (.ofString "BadName")), (.str (.ofString "BadName") 598), (.ref 321)⟩, ⟨(PyData.keyHash P (.ofString "InUse")), (.str (.ofString "InUse") 623), (.ref 340)⟩, ⟨(PyData.keyHash P (.ofString "NoPosition")), (.str (.ofString "NoPosition") 648), (.ref 359)⟩, ⟨(PyData.keyHash P (.ofString "NoPool")), (.str (.ofString "NoPool") 673), (.ref 378)⟩, ⟨(PyData.keyHash P (.ofString "BadWeb")), (.str (.ofString "BadWeb") 698), (.ref 397)⟩, ⟨(PyData.keyHash P (.ofString "NoGood")), (.str (.ofString "NoGood") 723), (.ref 416)⟩, ⟨(PyData.keyHash P (.ofString "BadShare")), (.str (.ofString "BadShare") 748), (.ref 435)⟩, ⟨(PyData.keyHash P (.ofString "BadDeed")), (.str (.ofString "BadDeed") 773), (.ref 454)⟩] 37), #[]⟩
def s6o12 : Obj := ⟨.none, none, (.fields #[(.int (2) 0), (.int (0) 0), (.ref 20), (.int (4) 0), (.int (0) 0), (.ref 33), (.int (6) 0), (.int (0) 0), (.ref 45), (.int (8) 0), (.int (0) 0), (.ref 57), (.int (10) 0), (.int (0) 0), (.ref 69), (.int (12) 0), (.int (0) 0), (.ref 81), (.int (14) 0), (.int (0) 0), (.ref 93), (.int (16) 0), (.int (0) 0), (.ref 105), (.int (18) 0), (.int (0) 0), (.ref 117), (.int (20) 0), (.int (0) 0), (.ref 129), (.int (22) 0), (.int (0) 0), (.ref 141), (.int (24) 0), (.int (0) 0), (.ref 153), (.int (26) 0), (.int (0) 0), (.ref 165), (.int (28) 0), (.int (0) 0), (.ref 177), (.int (32) 0), (.int (0) 0), (.ref 196), (.int (36) 0), (.int (0) 0), (.ref 215), (.int (40) 0), (.int (0) 0), (.ref 234), (.int (44) 0), (.int (0) 0), (.ref 253), (.int (48) 0), (.int (0) 0), (.ref 272), (.int (52) 0), (.int (0) 0), (.ref 291), (.int (56) 0), (.int (0) 0), (.ref 310), (.int (60) 0), (.int (0) 0), (.ref 329), (.int (64) 0), (.int (0) 0), (.ref 348), (.int (68) 0), (.int (0) 0), (.ref 367), (.int (72) 0), (.int (0) 0), (.ref 386), (.int (76) 0), (.int (0) 0), (.ref 405), (.int (80) 0), (.int (0) 0), (.ref 424), (.int (84) 0), (.int (0) 0), (.ref 443)]), #[]⟩
def s6o24 : Obj := ⟨(.type "type"), none, (.cls ⟨(.ofString "PoolError"), [(.type "ValueError")], [(.ref 24), (.type "ValueError"), (.type "Exception"), (.type "BaseException"), (.type "object")], 23, (.ofString "PoolError"), true, [], [(.ref 37), (.ref 49), (.ref 61), (.ref 73), (.ref 85), (.ref 97), (.ref 109), (.ref 121), (.ref 133), (.ref 145), (.ref 157), (.ref 169), (.ref 188), (.ref 207), (.ref 226), (.ref 245), (.ref 264), (.ref 283), (.ref 302), (.ref 321), (.ref 340), (.ref 359), (.ref 378), (.ref 397), (.ref 416), (.ref 435), (.ref 454)], false, none, false⟩), #[(some (.ref 15)), none, (some (.str (.ofString "PoolError") 189)), (some (.str (.ofString "PoolError") 197)), (some (.builtin "ValueError.__new__")), (some (.bool true))]⟩
def s6o381 : Obj := ⟨(.type "tuple"), none, (.seq #[(.ref 24)] 0), #[]⟩
def s6o382 : Obj := ⟨(.type "builtin_function_or_method"), none, (.fields #[(.builtin "type.__prepare__"), (.type "type")]), #[]⟩
def s6o383 (P : Params) : Obj := ⟨(.type "dict"), none, (.dict #[⟨(PyData.keyHash P (.ofString "__module__")), (.str (.ofString "__module__") 681), (.str (.ofString "rangepools.errors") 187)⟩, ⟨(PyData.keyHash P (.ofString "__qualname__")), (.str (.ofString "__qualname__") 683), (.str (.ofString "BadWeb") 682)⟩, ⟨(PyData.keyHash P (.ofString "__firstlineno__")), (.str (.ofString "__firstlineno__") 685), (.int (72) 684)⟩, ⟨(PyData.keyHash P (.ofString "__init__")), (.str (.ofString "__init__") 693), (.ref 394)⟩, ⟨(PyData.keyHash P (.ofString "__static_attributes__")), (.str (.ofString "__static_attributes__") 695), (.ref 395)⟩] 5), #[]⟩
def s6o384 : Obj := ⟨(.type "tuple"), none, (.seq #[] 0), #[]⟩
def s6o385 : Obj := ⟨.none, none, (.fields #[(.int (74) 0), (.int (4) 0), (.ref 393)]), #[]⟩
def s6o386 : Obj := ⟨(.type "code"), none, (.fields #[(.str (.ofString "BadWeb") 676), (.str (.ofString "BadWeb") 677), (.str (.ofString "/claim/cut.py") 678), (.int (72) 0), (.int (0) 0), (.int (0) 0), (.int (0) 0), (.int (0) 0), (.ref 384), (.bool false), (.int (181) 0), (.ref 385), .none, .none, .none, .none, (.int (679) 0), (.int (72) 0), (.str (.ofString "/claim/cut.py") 680)]), #[]⟩
def s6o387 : Obj := ⟨(.type "frame"), none, .plain, #[(some (.ref 386)), (some (.ref 3)), (some (.ref 383)), none, (some (.str (.ofString "rangepools.errors") 187)), none, (some (.ref 0))]⟩
def s6o388 : Obj := ⟨(.type "tuple"), none, (.seq #[] 0), #[]⟩
def s6o389 : Obj := ⟨.none, none, (.fields #[]), #[]⟩
def s6o390 : Obj := ⟨(.type "tuple"), none, (.seq #[(.str (.ofString "self") 689), (.str (.ofString "given") 690)] 0), #[]⟩
def s6o391 : Obj := ⟨(.type "tuple"), none, (.seq #[] 0), #[]⟩
def s6o392 : Obj := ⟨.none, none, (.func ⟨(.ofString "__init__"), (.ofString "BadWeb.__init__"), defArgs (inClass (top 25) 0), .stmts (defBody (inClass (top 25) 0)), defScope (inClass (top 25) 0), 0, [], .none, .none, .none, .none, none, .none, .none, 0⟩), #[]⟩
def s6o393 : Obj := ⟨(.type "code"), none, (.fields #[(.str (.ofString "__init__") 686), (.str (.ofString "BadWeb.__init__") 687), (.str (.ofString "/claim/cut.py") 688), (.int (74) 0), (.int (2) 0), (.int (0) 0), (.int (0) 0), (.int (3) 0), (.ref 388), (.bool true), (.int (181) 0), (.ref 389), .none, (.ref 390), (.ref 391), (.ref 392), (.int (691) 0), (.int (74) 0), (.str (.ofString "/claim/cut.py") 692)]), #[]⟩
def s6o394 : Obj := ⟨(.type "function"), none, (.func ⟨(.ofString "__init__"), (.ofString "BadWeb.__init__"), defArgs (inClass (top 25) 0), .stmts (defBody (inClass (top 25) 0)), defScope (inClass (top 25) 0), 3, [], .none, .none, .none, (.str (.ofString "rangepools.errors") 187), none, (.ref 393), .none, 0⟩), #[]⟩
def s6o395 : Obj := ⟨(.type "tuple"), none, (.seq #[(.str (.ofString "given") 694)] 0), #[]⟩
def s6o396 (P : Params) : Obj := ⟨(.type "dict"), none, (.dict #[⟨(PyData.keyHash P (.ofString "__module__")), (.str (.ofString "__module__") 681), (.str (.ofString "rangepools.errors") 187)⟩, ⟨(PyData.keyHash P (.ofString "__firstlineno__")), (.str (.ofString "__firstlineno__") 685), (.int (72) 684)⟩, ⟨(PyData.keyHash P (.ofString "__init__")), (.str (.ofString "__init__") 693), (.ref 394)⟩, ⟨(PyData.keyHash P (.ofString "__static_attributes__")), (.str (.ofString "__static_attributes__") 695), (.ref 395)⟩, ⟨(PyData.keyHash P (.ofString "__doc__")), (.str (.ofString "__doc__") 696), .none⟩] 2), #[]⟩
def s6o397 : Obj := ⟨(.type "type"), none, (.cls ⟨(.ofString "BadWeb"), [(.ref 24)], [(.ref 397), (.ref 24), (.type "ValueError"), (.type "Exception"), (.type "BaseException"), (.type "object")], 396, (.ofString "BadWeb"), true, [], [], false, none, false⟩), #[(some (.ref 381)), none, (some (.str (.ofString "BadWeb") 674)), (some (.str (.ofString "BadWeb") 682)), (some (.builtin "ValueError.__new__")), (some (.bool true))]⟩
def s6o398 : Obj := ⟨(.type "super"), none, (.fields #[(.ref 397), (.ref 397), (.ref 397)]), #[]⟩
def s6o399 : Obj := ⟨(.type "builtin_function_or_method"), none, (.fields #[(.builtin "object.__init_subclass__"), (.ref 397)]), #[]⟩
def s6o400 : Obj := ⟨(.type "tuple"), none, (.seq #[(.ref 24)] 0), #[]⟩
def s6o401 : Obj := ⟨(.type "builtin_function_or_method"), none, (.fields #[(.builtin "type.__prepare__"), (.type "type")]), #[]⟩
def s6o402 (P : Params) : Obj := ⟨(.type "dict"), none, (.dict #[⟨(PyData.keyHash P (.ofString "__module__")), (.str (.ofString "__module__") 706), (.str (.ofString "rangepools.errors") 187)⟩, ⟨(PyData.keyHash P (.ofString "__qualname__")), (.str (.ofString "__qualname__") 708), (.str (.ofString "NoGood") 707)⟩, ⟨(PyData.keyHash P (.ofString "__firstlineno__")), (.str (.ofString "__firstlineno__") 710), (.int (76) 709)⟩, ⟨(PyData.keyHash P (.ofString "__init__")), (.str (.ofString "__init__") 718), (.ref 413)⟩, ⟨(PyData.keyHash P (.ofString "__static_attributes__")), (.str (.ofString "__static_attributes__") 720), (.ref 414)⟩] 5), #[]⟩
def s6o403 : Obj := ⟨(.type "tuple"), none, (.seq #[] 0), #[]⟩
def s6o404 : Obj := ⟨.none, none, (.fields #[(.int (78) 0), (.int (4) 0), (.ref 412)]), #[]⟩
def s6o405 : Obj := ⟨(.type "code"), none, (.fields #[(.str (.ofString "NoGood") 701), (.str (.ofString "NoGood") 702), (.str (.ofString "/claim/cut.py") 703), (.int (76) 0), (.int (0) 0), (.int (0) 0), (.int (0) 0), (.int (0) 0), (.ref 403), (.bool false), (.int (181) 0), (.ref 404), .none, .none, .none, .none, (.int (704) 0), (.int (76) 0), (.str (.ofString "/claim/cut.py") 705)]), #[]⟩
def s6o406 : Obj := ⟨(.type "frame"), none, .plain, #[(some (.ref 405)), (some (.ref 3)), (some (.ref 402)), none, (some (.str (.ofString "rangepools.errors") 187)), none, (some (.ref 0))]⟩
def s6o407 : Obj := ⟨(.type "tuple"), none, (.seq #[] 0), #[]⟩
def s6o408 : Obj := ⟨.none, none, (.fields #[]), #[]⟩
def s6o409 : Obj := ⟨(.type "tuple"), none, (.seq #[(.str (.ofString "self") 714), (.str (.ofString "given") 715)] 0), #[]⟩
def s6o410 : Obj := ⟨(.type "tuple"), none, (.seq #[] 0), #[]⟩
def s6o411 : Obj := ⟨.none, none, (.func ⟨(.ofString "__init__"), (.ofString "NoGood.__init__"), defArgs (inClass (top 26) 0), .stmts (defBody (inClass (top 26) 0)), defScope (inClass (top 26) 0), 0, [], .none, .none, .none, .none, none, .none, .none, 0⟩), #[]⟩
def s6o412 : Obj := ⟨(.type "code"), none, (.fields #[(.str (.ofString "__init__") 711), (.str (.ofString "NoGood.__init__") 712), (.str (.ofString "/claim/cut.py") 713), (.int (78) 0), (.int (2) 0), (.int (0) 0), (.int (0) 0), (.int (3) 0), (.ref 407), (.bool true), (.int (181) 0), (.ref 408), .none, (.ref 409), (.ref 410), (.ref 411), (.int (716) 0), (.int (78) 0), (.str (.ofString "/claim/cut.py") 717)]), #[]⟩
def s6o413 : Obj := ⟨(.type "function"), none, (.func ⟨(.ofString "__init__"), (.ofString "NoGood.__init__"), defArgs (inClass (top 26) 0), .stmts (defBody (inClass (top 26) 0)), defScope (inClass (top 26) 0), 3, [], .none, .none, .none, (.str (.ofString "rangepools.errors") 187), none, (.ref 412), .none, 0⟩), #[]⟩
def s6o414 : Obj := ⟨(.type "tuple"), none, (.seq #[(.str (.ofString "given") 719)] 0), #[]⟩
def s6o415 (P : Params) : Obj := ⟨(.type "dict"), none, (.dict #[⟨(PyData.keyHash P (.ofString "__module__")), (.str (.ofString "__module__") 706), (.str (.ofString "rangepools.errors") 187)⟩, ⟨(PyData.keyHash P (.ofString "__firstlineno__")), (.str (.ofString "__firstlineno__") 710), (.int (76) 709)⟩, ⟨(PyData.keyHash P (.ofString "__init__")), (.str (.ofString "__init__") 718), (.ref 413)⟩, ⟨(PyData.keyHash P (.ofString "__static_attributes__")), (.str (.ofString "__static_attributes__") 720), (.ref 414)⟩, ⟨(PyData.keyHash P (.ofString "__doc__")), (.str (.ofString "__doc__") 721), .none⟩] 2), #[]⟩
def s6o416 : Obj := ⟨(.type "type"), none, (.cls ⟨(.ofString "NoGood"), [(.ref 24)], [(.ref 416), (.ref 24), (.type "ValueError"), (.type "Exception"), (.type "BaseException"), (.type "object")], 415, (.ofString "NoGood"), true, [], [], false, none, false⟩), #[(some (.ref 400)), none, (some (.str (.ofString "NoGood") 699)), (some (.str (.ofString "NoGood") 707)), (some (.builtin "ValueError.__new__")), (some (.bool true))]⟩
def s6o417 : Obj := ⟨(.type "super"), none, (.fields #[(.ref 416), (.ref 416), (.ref 416)]), #[]⟩
def s6o418 : Obj := ⟨(.type "builtin_function_or_method"), none, (.fields #[(.builtin "object.__init_subclass__"), (.ref 416)]), #[]⟩
def s6o419 : Obj := ⟨(.type "tuple"), none, (.seq #[(.ref 24)] 0), #[]⟩
def s6o420 : Obj := ⟨(.type "builtin_function_or_method"), none, (.fields #[(.builtin "type.__prepare__"), (.type "type")]), #[]⟩
def s6o421 (P : Params) : Obj := ⟨(.type "dict"), none, (.dict #[⟨(PyData.keyHash P (.ofString "__module__")), (.str (.ofString "__module__") 731), (.str (.ofString "rangepools.errors") 187)⟩, ⟨(PyData.keyHash P (.ofString "__qualname__")), (.str (.ofString "__qualname__") 733), (.str (.ofString "BadShare") 732)⟩, ⟨(PyData.keyHash P (.ofString "__firstlineno__")), (.str (.ofString "__firstlineno__") 735), (.int (80) 734)⟩, ⟨(PyData.keyHash P (.ofString "__init__")), (.str (.ofString "__init__") 743), (.ref 432)⟩, ⟨(PyData.keyHash P (.ofString "__static_attributes__")), (.str (.ofString "__static_attributes__") 745), (.ref 433)⟩] 5), #[]⟩
def s6o422 : Obj := ⟨(.type "tuple"), none, (.seq #[] 0), #[]⟩
def s6o423 : Obj := ⟨.none, none, (.fields #[(.int (82) 0), (.int (4) 0), (.ref 431)]), #[]⟩
def s6o424 : Obj := ⟨(.type "code"), none, (.fields #[(.str (.ofString "BadShare") 726), (.str (.ofString "BadShare") 727), (.str (.ofString "/claim/cut.py") 728), (.int (80) 0), (.int (0) 0), (.int (0) 0), (.int (0) 0), (.int (0) 0), (.ref 422), (.bool false), (.int (181) 0), (.ref 423), .none, .none, .none, .none, (.int (729) 0), (.int (80) 0), (.str (.ofString "/claim/cut.py") 730)]), #[]⟩
def s6o425 : Obj := ⟨(.type "frame"), none, .plain, #[(some (.ref 424)), (some (.ref 3)), (some (.ref 421)), none, (some (.str (.ofString "rangepools.errors") 187)), none, (some (.ref 0))]⟩
def s6o426 : Obj := ⟨(.type "tuple"), none, (.seq #[] 0), #[]⟩
def s6o427 : Obj := ⟨.none, none, (.fields #[]), #[]⟩
def s6o428 : Obj := ⟨(.type "tuple"), none, (.seq #[(.str (.ofString "self") 739), (.str (.ofString "given") 740)] 0), #[]⟩
def s6o429 : Obj := ⟨(.type "tuple"), none, (.seq #[] 0), #[]⟩
def s6o430 : Obj := ⟨.none, none, (.func ⟨(.ofString "__init__"), (.ofString "BadShare.__init__"), defArgs (inClass (top 27) 0), .stmts (defBody (inClass (top 27) 0)), defScope (inClass (top 27) 0), 0, [], .none, .none, .none, .none, none, .none, .none, 0⟩), #[]⟩
def s6o431 : Obj := ⟨(.type "code"), none, (.fields #[(.str (.ofString "__init__") 736), (.str (.ofString "BadShare.__init__") 737), (.str (.ofString "/claim/cut.py") 738), (.int (82) 0), (.int (2) 0), (.int (0) 0), (.int (0) 0), (.int (3) 0), (.ref 426), (.bool true), (.int (181) 0), (.ref 427), .none, (.ref 428), (.ref 429), (.ref 430), (.int (741) 0), (.int (82) 0), (.str (.ofString "/claim/cut.py") 742)]), #[]⟩
def s6o432 : Obj := ⟨(.type "function"), none, (.func ⟨(.ofString "__init__"), (.ofString "BadShare.__init__"), defArgs (inClass (top 27) 0), .stmts (defBody (inClass (top 27) 0)), defScope (inClass (top 27) 0), 3, [], .none, .none, .none, (.str (.ofString "rangepools.errors") 187), none, (.ref 431), .none, 0⟩), #[]⟩
def s6o433 : Obj := ⟨(.type "tuple"), none, (.seq #[(.str (.ofString "given") 744)] 0), #[]⟩
def s6o434 (P : Params) : Obj := ⟨(.type "dict"), none, (.dict #[⟨(PyData.keyHash P (.ofString "__module__")), (.str (.ofString "__module__") 731), (.str (.ofString "rangepools.errors") 187)⟩, ⟨(PyData.keyHash P (.ofString "__firstlineno__")), (.str (.ofString "__firstlineno__") 735), (.int (80) 734)⟩, ⟨(PyData.keyHash P (.ofString "__init__")), (.str (.ofString "__init__") 743), (.ref 432)⟩, ⟨(PyData.keyHash P (.ofString "__static_attributes__")), (.str (.ofString "__static_attributes__") 745), (.ref 433)⟩, ⟨(PyData.keyHash P (.ofString "__doc__")), (.str (.ofString "__doc__") 746), .none⟩] 2), #[]⟩
def s6o435 : Obj := ⟨(.type "type"), none, (.cls ⟨(.ofString "BadShare"), [(.ref 24)], [(.ref 435), (.ref 24), (.type "ValueError"), (.type "Exception"), (.type "BaseException"), (.type "object")], 434, (.ofString "BadShare"), true, [], [], false, none, false⟩), #[(some (.ref 419)), none, (some (.str (.ofString "BadShare") 724)), (some (.str (.ofString "BadShare") 732)), (some (.builtin "ValueError.__new__")), (some (.bool true))]⟩
def s6o436 : Obj := ⟨(.type "super"), none, (.fields #[(.ref 435), (.ref 435), (.ref 435)]), #[]⟩
def s6o437 : Obj := ⟨(.type "builtin_function_or_method"), none, (.fields #[(.builtin "object.__init_subclass__"), (.ref 435)]), #[]⟩
def s6o438 : Obj := ⟨(.type "tuple"), none, (.seq #[(.ref 24)] 0), #[]⟩
def s6o439 : Obj := ⟨(.type "builtin_function_or_method"), none, (.fields #[(.builtin "type.__prepare__"), (.type "type")]), #[]⟩
def s6o440 (P : Params) : Obj := ⟨(.type "dict"), none, (.dict #[⟨(PyData.keyHash P (.ofString "__module__")), (.str (.ofString "__module__") 756), (.str (.ofString "rangepools.errors") 187)⟩, ⟨(PyData.keyHash P (.ofString "__qualname__")), (.str (.ofString "__qualname__") 758), (.str (.ofString "BadDeed") 757)⟩, ⟨(PyData.keyHash P (.ofString "__firstlineno__")), (.str (.ofString "__firstlineno__") 760), (.int (84) 759)⟩, ⟨(PyData.keyHash P (.ofString "__init__")), (.str (.ofString "__init__") 768), (.ref 451)⟩, ⟨(PyData.keyHash P (.ofString "__static_attributes__")), (.str (.ofString "__static_attributes__") 770), (.ref 452)⟩] 5), #[]⟩
def s6o441 : Obj := ⟨(.type "tuple"), none, (.seq #[] 0), #[]⟩
def s6o442 : Obj := ⟨.none, none, (.fields #[(.int (86) 0), (.int (4) 0), (.ref 450)]), #[]⟩
def s6o443 : Obj := ⟨(.type "code"), none, (.fields #[(.str (.ofString "BadDeed") 751), (.str (.ofString "BadDeed") 752), (.str (.ofString "/claim/cut.py") 753), (.int (84) 0), (.int (0) 0), (.int (0) 0), (.int (0) 0), (.int (0) 0), (.ref 441), (.bool false), (.int (181) 0), (.ref 442), .none, .none, .none, .none, (.int (754) 0), (.int (84) 0), (.str (.ofString "/claim/cut.py") 755)]), #[]⟩
def s6o444 : Obj := ⟨(.type "frame"), none, .plain, #[(some (.ref 443)), (some (.ref 3)), (some (.ref 440)), none, (some (.str (.ofString "rangepools.errors") 187)), none, (some (.ref 0))]⟩
def s6o445 : Obj := ⟨(.type "tuple"), none, (.seq #[] 0), #[]⟩
def s6o446 : Obj := ⟨.none, none, (.fields #[]), #[]⟩
def s6o447 : Obj := ⟨(.type "tuple"), none, (.seq #[(.str (.ofString "self") 764), (.str (.ofString "given") 765)] 0), #[]⟩
def s6o448 : Obj := ⟨(.type "tuple"), none, (.seq #[] 0), #[]⟩
def s6o449 : Obj := ⟨.none, none, (.func ⟨(.ofString "__init__"), (.ofString "BadDeed.__init__"), defArgs (inClass (top 28) 0), .stmts (defBody (inClass (top 28) 0)), defScope (inClass (top 28) 0), 0, [], .none, .none, .none, .none, none, .none, .none, 0⟩), #[]⟩
def s6o450 : Obj := ⟨(.type "code"), none, (.fields #[(.str (.ofString "__init__") 761), (.str (.ofString "BadDeed.__init__") 762), (.str (.ofString "/claim/cut.py") 763), (.int (86) 0), (.int (2) 0), (.int (0) 0), (.int (0) 0), (.int (3) 0), (.ref 445), (.bool true), (.int (181) 0), (.ref 446), .none, (.ref 447), (.ref 448), (.ref 449), (.int (766) 0), (.int (86) 0), (.str (.ofString "/claim/cut.py") 767)]), #[]⟩
def s6o451 : Obj := ⟨(.type "function"), none, (.func ⟨(.ofString "__init__"), (.ofString "BadDeed.__init__"), defArgs (inClass (top 28) 0), .stmts (defBody (inClass (top 28) 0)), defScope (inClass (top 28) 0), 3, [], .none, .none, .none, (.str (.ofString "rangepools.errors") 187), none, (.ref 450), .none, 0⟩), #[]⟩
def s6o452 : Obj := ⟨(.type "tuple"), none, (.seq #[(.str (.ofString "given") 769)] 0), #[]⟩
def s6o453 (P : Params) : Obj := ⟨(.type "dict"), none, (.dict #[⟨(PyData.keyHash P (.ofString "__module__")), (.str (.ofString "__module__") 756), (.str (.ofString "rangepools.errors") 187)⟩, ⟨(PyData.keyHash P (.ofString "__firstlineno__")), (.str (.ofString "__firstlineno__") 760), (.int (84) 759)⟩, ⟨(PyData.keyHash P (.ofString "__init__")), (.str (.ofString "__init__") 768), (.ref 451)⟩, ⟨(PyData.keyHash P (.ofString "__static_attributes__")), (.str (.ofString "__static_attributes__") 770), (.ref 452)⟩, ⟨(PyData.keyHash P (.ofString "__doc__")), (.str (.ofString "__doc__") 771), .none⟩] 2), #[]⟩
def s6o454 : Obj := ⟨(.type "type"), none, (.cls ⟨(.ofString "BadDeed"), [(.ref 24)], [(.ref 454), (.ref 24), (.type "ValueError"), (.type "Exception"), (.type "BaseException"), (.type "object")], 453, (.ofString "BadDeed"), true, [], [], false, none, false⟩), #[(some (.ref 438)), none, (some (.str (.ofString "BadDeed") 749)), (some (.str (.ofString "BadDeed") 757)), (some (.builtin "ValueError.__new__")), (some (.bool true))]⟩
def s6o455 : Obj := ⟨(.type "super"), none, (.fields #[(.ref 454), (.ref 454), (.ref 454)]), #[]⟩
def s6o456 : Obj := ⟨(.type "builtin_function_or_method"), none, (.fields #[(.builtin "object.__init_subclass__"), (.ref 454)]), #[]⟩
def s6T (P : Params) : BT := (.node (zo0 P) (.node (zo1 P) (.node (s6o3 P) (.node zo7 (.node s0o15 (.node s0o31 (.node s0o63 (.node s2o127 (.node s4o255 .nil .nil) (.node (s6o383 P) .nil .nil)) (.node s3o191 (.node s5o319 .nil .nil) (.node s6o447 .nil .nil))) (.node s1o95 (.node s2o159 (.node s4o287 .nil .nil) (.node (s6o415 P) .nil .nil)) (.node s3o223 (.node s5o351 .nil .nil) .nil))) (.node s0o47 (.node s1o79 (.node s2o143 (.node s4o271 .nil .nil) (.node s6o399 .nil .nil)) (.node s3o207 (.node s5o335 .nil .nil) .nil)) (.node s1o111 (.node s3o175 (.node s4o303 .nil .nil) (.node s6o431 .nil .nil)) (.node s4o239 (.node s5o367 .nil .nil) .nil)))) (.node (s0o23 P) (.node s0o39 (.node s1o71 (.node s2o135 (.node (s4o263 P) .nil .nil) (.node s6o391 .nil .nil)) (.node s3o199 (.node s5o327 .nil .nil) (.node s6o455 .nil .nil))) (.node s1o103 (.node s3o167 (.node s4o295 .nil .nil) (.node s6o423 .nil .nil)) (.node (s4o231 P) (.node s5o359 .nil .nil) .nil))) (.node s0o55 (.node s1o87 (.node s2o151 (.node s4o279 .nil .nil) (.node s6o407 .nil .nil)) (.node s3o215 (.node s5o343 .nil .nil) .nil)) (.node s2o119 (.node s3o183 (.node s5o311 .nil .nil) (.node s6o439 .nil .nil)) (.node s4o247 (.node s5o375 .nil .nil) .nil))))) (.node ao11 (.node s0o19 (.node s0o35 (.node s1o67 (.node s2o131 (.node s4o259 .nil .nil) (.node s6o387 .nil .nil)) (.node s3o195 (.node s5o323 .nil .nil) (.node s6o451 .nil .nil))) (.node s1o99 (.node s3o163 (.node s4o291 .nil .nil) (.node s6o419 .nil .nil)) (.node s3o227 (.node s5o355 .nil .nil) .nil))) (.node s0o51 (.node s1o83 (.node s2o147 (.node s4o275 .nil .nil) (.node s6o403 .nil .nil)) (.node s3o211 (.node (s5o339 P) .nil .nil) .nil)) (.node s2o115 (.node s3o179 (.node (s5o307 P) .nil .nil) (.node s6o435 .nil .nil)) (.node s4o243 (.node s5o371 .nil .nil) .nil)))) (.node s0o27 (.node s0o43 (.node s1o75 (.node s2o139 (.node s4o267 .nil .nil) (.node s6o395 .nil .nil)) (.node s3o203 (.node s5o331 .nil .nil) .nil)) (.node s1o107 (.node s3o171 (.node s4o299 .nil .nil) (.node s6o427 .nil .nil)) (.node s4o235 (.node s5o363 .nil .nil) .nil))) (.node s0o59 (.node s1o91 (.node s2o155 (.node s4o283 .nil .nil) (.node s6o411 .nil .nil)) (.node s3o219 (.node s5o347 .nil .nil) .nil)) (.node s2o123 (.node (s3o187 P) (.node s5o315 .nil .nil) (.node s6o443 .nil .nil)) (.node s4o251 (.node s5o379 .nil .nil) .nil)))))) (.node zo5 (.node zo9 (.node (s0o17 P) (.node s0o33 (.node s1o65 (.node s2o129 (.node s4o257 .nil .nil) (.node s6o385 .nil .nil)) (.node (s3o193 P) (.node s5o321 .nil .nil) (.node s6o449 .nil .nil))) (.node s1o97 (.node s3o161 (.node s4o289 .nil .nil) (.node s6o417 .nil .nil)) (.node (s3o225 P) (.node s5o353 .nil .nil) .nil))) (.node s0o49 (.node s1o81 (.node s2o145 (.node s4o273 .nil .nil) (.node s6o401 .nil .nil)) (.node s3o209 (.node s5o337 .nil .nil) .nil)) (.node s2o113 (.node s3o177 (.node s5o305 .nil .nil) (.node s6o433 .nil .nil)) (.node s4o241 (.node s5o369 .nil .nil) .nil)))) (.node s0o25 (.node s0o41 (.node s1o73 (.node s2o137 (.node s4o265 .nil .nil) (.node s6o393 .nil .nil)) (.node s3o201 (.node s5o329 .nil .nil) .nil)) (.node s1o105 (.node s3o169 (.node s4o297 .nil .nil) (.node s6o425 .nil .nil)) (.node s4o233 (.node s5o361 .nil .nil) .nil))) (.node s0o57 (.node s1o89 (.node s2o153 (.node s4o281 .nil .nil) (.node s6o409 .nil .nil)) (.node s3o217 (.node (s5o345 P) .nil .nil) .nil)) (.node s2o121 (.node s3o185 (.node s5o313 .nil .nil) (.node s6o441 .nil .nil)) (.node s4o249 (.node (s5o377 P) .nil .nil) .nil))))) (.node ao13 (.node s0o21 (.node s0o37 (.node s1o69 (.node s2o133 (.node s4o261 .nil .nil) (.node s6o389 .nil .nil)) (.node s3o197 (.node s5o325 .nil .nil) (.node (s6o453 P) .nil .nil))) (.node s1o101 (.node s3o165 (.node s4o293 .nil .nil) (.node (s6o421 P) .nil .nil)) (.node s4o229 (.node s5o357 .nil .nil) .nil))) (.node s0o53 (.node s1o85 (.node s2o149 (.node s4o277 .nil .nil) (.node s6o405 .nil .nil)) (.node s3o213 (.node s5o341 .nil .nil) .nil)) (.node s2o117 (.node s3o181 (.node s5o309 .nil .nil) (.node s6o437 .nil .nil)) (.node s4o245 (.node s5o373 .nil .nil) .nil)))) (.node s0o29 (.node s0o45 (.node s1o77 (.node s2o141 (.node (s4o269 P) .nil .nil) (.node s6o397 .nil .nil)) (.node s3o205 (.node s5o333 .nil .nil) .nil)) (.node s1o109 (.node s3o173 (.node (s4o301 P) .nil .nil) (.node s6o429 .nil .nil)) (.node s4o237 (.node s5o365 .nil .nil) .nil))) (.node s0o61 (.node s1o93 (.node s2o157 (.node s4o285 .nil .nil) (.node s6o413 .nil .nil)) (.node s3o221 (.node s5o349 .nil .nil) .nil)) (.node s2o125 (.node s3o189 (.node s5o317 .nil .nil) (.node s6o445 .nil .nil)) (.node s4o253 (.node s6o381 .nil .nil) .nil))))))) (.node zo2 (.node zo4 (.node zo8 (.node s0o16 (.node s0o32 (.node s1o64 (.node s2o128 (.node s4o256 .nil .nil) (.node s6o384 .nil .nil)) (.node s3o192 (.node (s5o320 P) .nil .nil) (.node s6o448 .nil .nil))) (.node (s1o96 P) (.node s3o160 (.node (s4o288 P) .nil .nil) (.node s6o416 .nil .nil)) (.node s3o224 (.node s5o352 .nil .nil) .nil))) (.node (s0o48 P) (.node s1o80 (.node (s2o144 P) (.node s4o272 .nil .nil) (.node s6o400 .nil .nil)) (.node s3o208 (.node s5o336 .nil .nil) .nil)) (.node s2o112 (.node s3o176 (.node s4o304 .nil .nil) (.node s6o432 .nil .nil)) (.node s4o240 (.node s5o368 .nil .nil) .nil)))) (.node s6o24 (.node s0o40 (.node (s1o72 P) (.node s2o136 (.node s4o264 .nil .nil) (.node s6o392 .nil .nil)) (.node s3o200 (.node s5o328 .nil .nil) (.node s6o456 .nil .nil))) (.node s1o104 (.node (s3o168 P) (.node s4o296 .nil .nil) (.node s6o424 .nil .nil)) (.node s4o232 (.node s5o360 .nil .nil) .nil))) (.node s0o56 (.node s1o88 (.node s2o152 (.node s4o280 .nil .nil) (.node s6o408 .nil .nil)) (.node s3o216 (.node s5o344 .nil .nil) .nil)) (.node (s2o120 P) (.node s3o184 (.node s5o312 .nil .nil) (.node (s6o440 P) .nil .nil)) (.node s4o248 (.node s5o376 .nil .nil) .nil))))) (.node s6o12 (.node s0o20 (.node (s0o36 P) (.node s1o68 (.node (s2o132 P) (.node s4o260 .nil .nil) (.node s6o388 .nil .nil)) (.node s3o196 (.node s5o324 .nil .nil) (.node s6o452 .nil .nil))) (.node s1o100 (.node s3o164 (.node s4o292 .nil .nil) (.node s6o420 .nil .nil)) (.node s3o228 (.node s5o356 .nil .nil) .nil))) (.node s0o52 (.node (s1o84 P) (.node s2o148 (.node s4o276 .nil .nil) (.node s6o404 .nil .nil)) (.node (s3o212 P) (.node s5o340 .nil .nil) .nil)) (.node s2o116 (.node s3o180 (.node s5o308 .nil .nil) (.node s6o436 .nil .nil)) (.node (s4o244 P) (.node s5o372 .nil .nil) .nil)))) (.node s0o28 (.node s0o44 (.node s1o76 (.node s2o140 (.node s4o268 .nil .nil) (.node (s6o396 P) .nil .nil)) (.node s3o204 (.node s5o332 .nil .nil) .nil)) (.node (s1o108 P) (.node s3o172 (.node s4o300 .nil .nil) (.node s6o428 .nil .nil)) (.node s4o236 (.node (s5o364 P) .nil .nil) .nil))) (.node (s0o60 P) (.node s1o92 (.node (s2o156 P) (.node s4o284 .nil .nil) (.node s6o412 .nil .nil)) (.node s3o220 (.node s5o348 .nil .nil) .nil)) (.node s2o124 (.node s3o188 (.node s5o316 .nil .nil) (.node s6o444 .nil .nil)) (.node s4o252 (.node s5o380 .nil .nil) .nil)))))) (.node zo6 (.node zo10 (.node s0o18 (.node s0o34 (.node (s1o66 P) (.node s2o130 (.node s4o258 .nil .nil) (.node s6o386 .nil .nil)) (.node s3o194 (.node s5o322 .nil .nil) (.node s6o450 .nil .nil))) (.node s1o98 (.node (s3o162 P) (.node s4o290 .nil .nil) (.node s6o418 .nil .nil)) (.node s3o226 (.node s5o354 .nil .nil) .nil))) (.node s0o50 (.node s1o82 (.node s2o146 (.node s4o274 .nil .nil) (.node (s6o402 P) .nil .nil)) (.node s3o210 (.node s5o338 .nil .nil) .nil)) (.node (s2o114 P) (.node s3o178 (.node s5o306 .nil .nil) (.node (s6o434 P) .nil .nil)) (.node s4o242 (.node s5o370 .nil .nil) .nil)))) (.node s0o26 (.node (s0o42 P) (.node s1o74 (.node (s2o138 P) (.node s4o266 .nil .nil) (.node s6o394 .nil .nil)) (.node s3o202 (.node s5o330 .nil .nil) .nil)) (.node s1o106 (.node s3o170 (.node s4o298 .nil .nil) (.node s6o426 .nil .nil)) (.node s4o234 (.node s5o362 .nil .nil) .nil))) (.node s0o58 (.node (s1o90 P) (.node s2o154 (.node (s4o282 P) .nil .nil) (.node s6o410 .nil .nil)) (.node s3o218 (.node s5o346 .nil .nil) .nil)) (.node s2o122 (.node s3o186 (.node s5o314 .nil .nil) (.node s6o442 .nil .nil)) (.node (s4o250 P) (.node s5o378 .nil .nil) .nil))))) (.node ao14 (.node s0o22 (.node s0o38 (.node s1o70 (.node s2o134 (.node s4o262 .nil .nil) (.node s6o390 .nil .nil)) (.node s3o198 (.node (s5o326 P) .nil .nil) (.node s6o454 .nil .nil))) (.node (s1o102 P) (.node s3o166 (.node s4o294 .nil .nil) (.node s6o422 .nil .nil)) (.node s4o230 (.node (s5o358 P) .nil .nil) .nil))) (.node (s0o54 P) (.node s1o86 (.node (s2o150 P) (.node s4o278 .nil .nil) (.node s6o406 .nil .nil)) (.node s3o214 (.node s5o342 .nil .nil) .nil)) (.node s2o118 (.node s3o182 (.node s5o310 .nil .nil) (.node s6o438 .nil .nil)) (.node s4o246 (.node s5o374 .nil .nil) .nil)))) (.node (s0o30 P) (.node s0o46 (.node (s1o78 P) (.node s2o142 (.node s4o270 .nil .nil) (.node s6o398 .nil .nil)) (.node (s3o206 P) (.node s5o334 .nil .nil) .nil)) (.node s1o110 (.node (s3o174 P) (.node s4o302 .nil .nil) (.node s6o430 .nil .nil)) (.node s4o238 (.node s5o366 .nil .nil) .nil))) (.node s0o62 (.node s1o94 (.node s2o158 (.node s4o286 .nil .nil) (.node s6o414 .nil .nil)) (.node s3o222 (.node s5o350 .nil .nil) .nil)) (.node (s2o126 P) (.node s3o190 (.node s5o318 .nil .nil) (.node s6o446 .nil .nil)) (.node s4o254 (.node s6o382 .nil .nil) .nil))))))))
def s6 : LH.St := ⟨s6T, 457, #[], ⟨0, 0, 0, 0⟩, 774⟩
def s7o3 (P : Params) : Obj := ⟨(.type "dict"), none, (.dict #[⟨(PyData.keyHash P (.ofString "__name__")), (.str (.ofString "__name__") 165), (.str (.ofString "law_rangepools_k01_errors") 824)⟩, ⟨(PyData.keyHash P (.ofString "__doc__")), (.str (.ofString "__doc__") 166), .none⟩, ⟨(PyData.keyHash P (.ofString "__package__")), (.str (.ofString "__package__") 167), .none⟩, ⟨(PyData.keyHash P (.ofString "__loader__")), (.str (.ofString "__loader__") 168), (.builtin "__main__.__loader__#opaque")⟩, ⟨(PyData.keyHash P (.ofString "__spec__")), (.str (.ofString "__spec__") 169), .none⟩, ⟨(PyData.keyHash P (.ofString "__annotations__")), (.str (.ofString "__annotations__") 170), (.ref 6)⟩, ⟨(PyData.keyHash P (.ofString "__builtins__")), (.str (.ofString "__builtins__") 171), (.ref 4)⟩, ⟨(PyData.keyHash P (.ofString "__file__")), (.str (.ofString "__file__") 173), (.str (.ofString "/claim/cut.py") 172)⟩, ⟨(PyData.keyHash P (.ofString "__cached__")), (.str (.ofString "__cached__") 174), .none⟩, ⟨(PyData.keyHash P (.ofString "PoolError")), (.str (.ofString "PoolError") 206), (.ref 24)⟩, ⟨(PyData.keyHash P (.ofString "ByZero")), (.str (.ofString "ByZero") 222), (.ref 37)⟩, ⟨(PyData.keyHash P (.ofString "BadText")), (.str (.ofString "BadText") 238), (.ref 49)⟩, ⟨(PyData.keyHash P (.ofString "BadRange")), (.str (.ofString "BadRange") 254), (.ref 61)⟩, ⟨(PyData.keyHash P (.ofString "Lacking")), (.str (.ofString "Lacking") 270), (.ref 73)⟩, ⟨(PyData.keyHash P (.ofString "BadRoute")), (.str (.ofString "BadRoute") 286), (.ref 85)⟩, ⟨(PyData.keyHash P (.ofString "BadSplit")), (.str (.ofString "BadSplit") 302), (.ref 97)⟩, ⟨(PyData.keyHash P (.ofString "BadRing")), (.str (.ofString "BadRing") 318), (.ref 109)⟩, ⟨(PyData.keyHash P (.ofString "TooMuch")), (.str (.ofString "TooMuch") 334), (.ref 121)⟩, ⟨(PyData.keyHash P (.ofString "UnlikeFees")), (.str (.ofString "UnlikeFees") 350), (.ref 133)⟩, ⟨(PyData.keyHash P (.ofString "BadPrices")), (.str (.ofString "BadPrices") 366), (.ref 145)⟩, ⟨(PyData.keyHash P (.ofString "NothingToUndo")), (.str (.ofString "NothingToUndo") 382), (.ref 157)⟩, ⟨(PyData.keyHash P (.ofString "NothingToRedo")), (.str (.ofString "NothingToRedo") 398), (.ref 169)⟩, ⟨(PyData.keyHash P (.ofString "BadNumber")), (.str (.ofString "BadNumber") 423), (.ref 188)⟩, ⟨(PyData.keyHash P (.ofString "BadSize")), (.str (.ofString "BadSize") 448), (.ref 207)⟩, ⟨(PyData.keyHash P (.ofString "BadRoot")), (.str (.ofString "BadRoot") 473), (.ref 226)⟩, ⟨(PyData.keyHash P (.ofString "BadFee")), (.str (.ofString "BadFee") 498), (.ref 245)⟩, ⟨(PyData.keyHash P (.ofString "BadGood")), (.str (.ofString "BadGood") 523), (.ref 264)⟩, ⟨(PyData.keyHash P (.ofString "BadAmount")), (.str (.ofString "BadAmount") 548), (.ref 283)⟩, ⟨(PyData.keyHash P (.ofString "NoWay")), (.str (.ofString "NoWay") 573), (.ref 302)⟩, ⟨(PyData.keyHash P (.ofString "BadName")), (.str (.ofString "BadName") 598), (.ref 321)⟩, ⟨(PyData.keyHash P (.ofString "InUse")), (.str (.ofString "InUse") 623), (.ref 340)⟩, ⟨(PyData.keyHash P (.ofString "NoPosition")), (.str (.ofString "NoPosition") 648), (.ref 359)⟩, ⟨(PyData.keyHash P (.ofString "NoPool")), (.str (.ofString "NoPool") 673), (.ref 378)⟩, ⟨(PyData.keyHash P (.ofString "BadWeb")), (.str (.ofString "BadWeb") 698), (.ref 397)⟩, ⟨(PyData.keyHash P (.ofString "NoGood")), (.str (.ofString "NoGood") 723), (.ref 416)⟩, ⟨(PyData.keyHash P (.ofString "BadShare")), (.str (.ofString "BadShare") 748), (.ref 435)⟩, ⟨(PyData.keyHash P (.ofString "BadDeed")), (.str (.ofString "BadDeed") 773), (.ref 454)⟩, ⟨(PyData.keyHash P (.ofString "Short")), (.str (.ofString "Short") 798), (.ref 473)⟩, ⟨(PyData.keyHash P (.ofString "BadLine")), (.str (.ofString "BadLine") 823), (.ref 492)⟩, ⟨(PyData.keyHash P (.ofString "_law_cell")), (.str (.ofString "_law_cell") 833), (.ref 501)⟩, ⟨(PyData.keyHash P (.ofString "_law_box")), (.str (.ofString "_law_box") 841), (.ref 508)⟩, ⟨(PyData.keyHash P (.ofString "_law_take")), (.str (.ofString "_law_take") 851), (.ref 515)⟩, ⟨(PyData.keyHash P (.ofString "_law_same")), (.str (.ofString "_law_same") 859), (.ref 522)⟩, ⟨(PyData.keyHash P (.ofString "_law_kinds")), (.str (.ofString "_law_kinds") 865), (.ref 527)⟩, ⟨(PyData.keyHash P (.ofString "_law_bases")), (.str (.ofString "_law_bases") 871), (.ref 532)⟩, ⟨(PyData.keyHash P (.ofString "law")), (.str (.ofString "law") 885), (.ref 539)⟩] 46), #[]⟩
def s7o12 : Obj := ⟨.none, none, (.fields #[(.int (2) 0), (.int (0) 0), (.ref 20), (.int (4) 0), (.int (0) 0), (.ref 33), (.int (6) 0), (.int (0) 0), (.ref 45), (.int (8) 0), (.int (0) 0), (.ref 57), (.int (10) 0), (.int (0) 0), (.ref 69), (.int (12) 0), (.int (0) 0), (.ref 81), (.int (14) 0), (.int (0) 0), (.ref 93), (.int (16) 0), (.int (0) 0), (.ref 105), (.int (18) 0), (.int (0) 0), (.ref 117), (.int (20) 0), (.int (0) 0), (.ref 129), (.int (22) 0), (.int (0) 0), (.ref 141), (.int (24) 0), (.int (0) 0), (.ref 153), (.int (26) 0), (.int (0) 0), (.ref 165), (.int (28) 0), (.int (0) 0), (.ref 177), (.int (32) 0), (.int (0) 0), (.ref 196), (.int (36) 0), (.int (0) 0), (.ref 215), (.int (40) 0), (.int (0) 0), (.ref 234), (.int (44) 0), (.int (0) 0), (.ref 253), (.int (48) 0), (.int (0) 0), (.ref 272), (.int (52) 0), (.int (0) 0), (.ref 291), (.int (56) 0), (.int (0) 0), (.ref 310), (.int (60) 0), (.int (0) 0), (.ref 329), (.int (64) 0), (.int (0) 0), (.ref 348), (.int (68) 0), (.int (0) 0), (.ref 367), (.int (72) 0), (.int (0) 0), (.ref 386), (.int (76) 0), (.int (0) 0), (.ref 405), (.int (80) 0), (.int (0) 0), (.ref 424), (.int (84) 0), (.int (0) 0), (.ref 443), (.int (88) 0), (.int (0) 0), (.ref 462), (.int (92) 0), (.int (0) 0), (.ref 481), (.int (97) 0), (.int (0) 0), (.ref 500), (.int (99) 0), (.int (0) 0), (.ref 507), (.int (101) 0), (.int (0) 0), (.ref 514), (.int (110) 0), (.int (0) 0), (.ref 521), (.int (112) 0), (.int (0) 0), (.ref 526), (.int (124) 0), (.int (0) 0), (.ref 531), (.int (132) 0), (.int (0) 0), (.ref 538)]), #[]⟩
def s7o24 : Obj := ⟨(.type "type"), none, (.cls ⟨(.ofString "PoolError"), [(.type "ValueError")], [(.ref 24), (.type "ValueError"), (.type "Exception"), (.type "BaseException"), (.type "object")], 23, (.ofString "PoolError"), true, [], [(.ref 37), (.ref 49), (.ref 61), (.ref 73), (.ref 85), (.ref 97), (.ref 109), (.ref 121), (.ref 133), (.ref 145), (.ref 157), (.ref 169), (.ref 188), (.ref 207), (.ref 226), (.ref 245), (.ref 264), (.ref 283), (.ref 302), (.ref 321), (.ref 340), (.ref 359), (.ref 378), (.ref 397), (.ref 416), (.ref 435), (.ref 454), (.ref 473), (.ref 492)], false, none, false⟩), #[(some (.ref 15)), none, (some (.str (.ofString "PoolError") 189)), (some (.str (.ofString "PoolError") 197)), (some (.builtin "ValueError.__new__")), (some (.bool true))]⟩
def s7o457 : Obj := ⟨(.type "tuple"), none, (.seq #[(.ref 24)] 0), #[]⟩
def s7o458 : Obj := ⟨(.type "builtin_function_or_method"), none, (.fields #[(.builtin "type.__prepare__"), (.type "type")]), #[]⟩
def s7o459 (P : Params) : Obj := ⟨(.type "dict"), none, (.dict #[⟨(PyData.keyHash P (.ofString "__module__")), (.str (.ofString "__module__") 781), (.str (.ofString "rangepools.errors") 187)⟩, ⟨(PyData.keyHash P (.ofString "__qualname__")), (.str (.ofString "__qualname__") 783), (.str (.ofString "Short") 782)⟩, ⟨(PyData.keyHash P (.ofString "__firstlineno__")), (.str (.ofString "__firstlineno__") 785), (.int (88) 784)⟩, ⟨(PyData.keyHash P (.ofString "__init__")), (.str (.ofString "__init__") 793), (.ref 470)⟩, ⟨(PyData.keyHash P (.ofString "__static_attributes__")), (.str (.ofString "__static_attributes__") 795), (.ref 471)⟩] 5), #[]⟩
def s7o460 : Obj := ⟨(.type "tuple"), none, (.seq #[] 0), #[]⟩
def s7o461 : Obj := ⟨.none, none, (.fields #[(.int (90) 0), (.int (4) 0), (.ref 469)]), #[]⟩
def s7o462 : Obj := ⟨(.type "code"), none, (.fields #[(.str (.ofString "Short") 776), (.str (.ofString "Short") 777), (.str (.ofString "/claim/cut.py") 778), (.int (88) 0), (.int (0) 0), (.int (0) 0), (.int (0) 0), (.int (0) 0), (.ref 460), (.bool false), (.int (181) 0), (.ref 461), .none, .none, .none, .none, (.int (779) 0), (.int (88) 0), (.str (.ofString "/claim/cut.py") 780)]), #[]⟩
def s7o463 : Obj := ⟨(.type "frame"), none, .plain, #[(some (.ref 462)), (some (.ref 3)), (some (.ref 459)), none, (some (.str (.ofString "rangepools.errors") 187)), none, (some (.ref 0))]⟩
def s7o464 : Obj := ⟨(.type "tuple"), none, (.seq #[] 0), #[]⟩
def s7o465 : Obj := ⟨.none, none, (.fields #[]), #[]⟩
def s7o466 : Obj := ⟨(.type "tuple"), none, (.seq #[(.str (.ofString "self") 789), (.str (.ofString "given") 790)] 0), #[]⟩
def s7o467 : Obj := ⟨(.type "tuple"), none, (.seq #[] 0), #[]⟩
def s7o468 : Obj := ⟨.none, none, (.func ⟨(.ofString "__init__"), (.ofString "Short.__init__"), defArgs (inClass (top 29) 0), .stmts (defBody (inClass (top 29) 0)), defScope (inClass (top 29) 0), 0, [], .none, .none, .none, .none, none, .none, .none, 0⟩), #[]⟩
def s7o469 : Obj := ⟨(.type "code"), none, (.fields #[(.str (.ofString "__init__") 786), (.str (.ofString "Short.__init__") 787), (.str (.ofString "/claim/cut.py") 788), (.int (90) 0), (.int (2) 0), (.int (0) 0), (.int (0) 0), (.int (3) 0), (.ref 464), (.bool true), (.int (181) 0), (.ref 465), .none, (.ref 466), (.ref 467), (.ref 468), (.int (791) 0), (.int (90) 0), (.str (.ofString "/claim/cut.py") 792)]), #[]⟩
def s7o470 : Obj := ⟨(.type "function"), none, (.func ⟨(.ofString "__init__"), (.ofString "Short.__init__"), defArgs (inClass (top 29) 0), .stmts (defBody (inClass (top 29) 0)), defScope (inClass (top 29) 0), 3, [], .none, .none, .none, (.str (.ofString "rangepools.errors") 187), none, (.ref 469), .none, 0⟩), #[]⟩
def s7o471 : Obj := ⟨(.type "tuple"), none, (.seq #[(.str (.ofString "given") 794)] 0), #[]⟩
def s7o472 (P : Params) : Obj := ⟨(.type "dict"), none, (.dict #[⟨(PyData.keyHash P (.ofString "__module__")), (.str (.ofString "__module__") 781), (.str (.ofString "rangepools.errors") 187)⟩, ⟨(PyData.keyHash P (.ofString "__firstlineno__")), (.str (.ofString "__firstlineno__") 785), (.int (88) 784)⟩, ⟨(PyData.keyHash P (.ofString "__init__")), (.str (.ofString "__init__") 793), (.ref 470)⟩, ⟨(PyData.keyHash P (.ofString "__static_attributes__")), (.str (.ofString "__static_attributes__") 795), (.ref 471)⟩, ⟨(PyData.keyHash P (.ofString "__doc__")), (.str (.ofString "__doc__") 796), .none⟩] 2), #[]⟩
def s7o473 : Obj := ⟨(.type "type"), none, (.cls ⟨(.ofString "Short"), [(.ref 24)], [(.ref 473), (.ref 24), (.type "ValueError"), (.type "Exception"), (.type "BaseException"), (.type "object")], 472, (.ofString "Short"), true, [], [], false, none, false⟩), #[(some (.ref 457)), none, (some (.str (.ofString "Short") 774)), (some (.str (.ofString "Short") 782)), (some (.builtin "ValueError.__new__")), (some (.bool true))]⟩
def s7o474 : Obj := ⟨(.type "super"), none, (.fields #[(.ref 473), (.ref 473), (.ref 473)]), #[]⟩
def s7o475 : Obj := ⟨(.type "builtin_function_or_method"), none, (.fields #[(.builtin "object.__init_subclass__"), (.ref 473)]), #[]⟩
def s7o476 : Obj := ⟨(.type "tuple"), none, (.seq #[(.ref 24)] 0), #[]⟩
def s7o477 : Obj := ⟨(.type "builtin_function_or_method"), none, (.fields #[(.builtin "type.__prepare__"), (.type "type")]), #[]⟩
def s7o478 (P : Params) : Obj := ⟨(.type "dict"), none, (.dict #[⟨(PyData.keyHash P (.ofString "__module__")), (.str (.ofString "__module__") 806), (.str (.ofString "rangepools.errors") 187)⟩, ⟨(PyData.keyHash P (.ofString "__qualname__")), (.str (.ofString "__qualname__") 808), (.str (.ofString "BadLine") 807)⟩, ⟨(PyData.keyHash P (.ofString "__firstlineno__")), (.str (.ofString "__firstlineno__") 810), (.int (92) 809)⟩, ⟨(PyData.keyHash P (.ofString "__init__")), (.str (.ofString "__init__") 818), (.ref 489)⟩, ⟨(PyData.keyHash P (.ofString "__static_attributes__")), (.str (.ofString "__static_attributes__") 820), (.ref 490)⟩] 5), #[]⟩
def s7o479 : Obj := ⟨(.type "tuple"), none, (.seq #[] 0), #[]⟩
def s7o480 : Obj := ⟨.none, none, (.fields #[(.int (94) 0), (.int (4) 0), (.ref 488)]), #[]⟩
def s7o481 : Obj := ⟨(.type "code"), none, (.fields #[(.str (.ofString "BadLine") 801), (.str (.ofString "BadLine") 802), (.str (.ofString "/claim/cut.py") 803), (.int (92) 0), (.int (0) 0), (.int (0) 0), (.int (0) 0), (.int (0) 0), (.ref 479), (.bool false), (.int (181) 0), (.ref 480), .none, .none, .none, .none, (.int (804) 0), (.int (92) 0), (.str (.ofString "/claim/cut.py") 805)]), #[]⟩
def s7o482 : Obj := ⟨(.type "frame"), none, .plain, #[(some (.ref 481)), (some (.ref 3)), (some (.ref 478)), none, (some (.str (.ofString "rangepools.errors") 187)), none, (some (.ref 0))]⟩
def s7o483 : Obj := ⟨(.type "tuple"), none, (.seq #[] 0), #[]⟩
def s7o484 : Obj := ⟨.none, none, (.fields #[]), #[]⟩
def s7o485 : Obj := ⟨(.type "tuple"), none, (.seq #[(.str (.ofString "self") 814), (.str (.ofString "line") 815)] 0), #[]⟩
def s7o486 : Obj := ⟨(.type "tuple"), none, (.seq #[] 0), #[]⟩
def s7o487 : Obj := ⟨.none, none, (.func ⟨(.ofString "__init__"), (.ofString "BadLine.__init__"), defArgs (inClass (top 30) 0), .stmts (defBody (inClass (top 30) 0)), defScope (inClass (top 30) 0), 0, [], .none, .none, .none, .none, none, .none, .none, 0⟩), #[]⟩
def s7o488 : Obj := ⟨(.type "code"), none, (.fields #[(.str (.ofString "__init__") 811), (.str (.ofString "BadLine.__init__") 812), (.str (.ofString "/claim/cut.py") 813), (.int (94) 0), (.int (2) 0), (.int (0) 0), (.int (0) 0), (.int (3) 0), (.ref 483), (.bool true), (.int (181) 0), (.ref 484), .none, (.ref 485), (.ref 486), (.ref 487), (.int (816) 0), (.int (94) 0), (.str (.ofString "/claim/cut.py") 817)]), #[]⟩
def s7o489 : Obj := ⟨(.type "function"), none, (.func ⟨(.ofString "__init__"), (.ofString "BadLine.__init__"), defArgs (inClass (top 30) 0), .stmts (defBody (inClass (top 30) 0)), defScope (inClass (top 30) 0), 3, [], .none, .none, .none, (.str (.ofString "rangepools.errors") 187), none, (.ref 488), .none, 0⟩), #[]⟩
def s7o490 : Obj := ⟨(.type "tuple"), none, (.seq #[(.str (.ofString "line") 819)] 0), #[]⟩
def s7o491 (P : Params) : Obj := ⟨(.type "dict"), none, (.dict #[⟨(PyData.keyHash P (.ofString "__module__")), (.str (.ofString "__module__") 806), (.str (.ofString "rangepools.errors") 187)⟩, ⟨(PyData.keyHash P (.ofString "__firstlineno__")), (.str (.ofString "__firstlineno__") 810), (.int (92) 809)⟩, ⟨(PyData.keyHash P (.ofString "__init__")), (.str (.ofString "__init__") 818), (.ref 489)⟩, ⟨(PyData.keyHash P (.ofString "__static_attributes__")), (.str (.ofString "__static_attributes__") 820), (.ref 490)⟩, ⟨(PyData.keyHash P (.ofString "__doc__")), (.str (.ofString "__doc__") 821), .none⟩] 2), #[]⟩
def s7o492 : Obj := ⟨(.type "type"), none, (.cls ⟨(.ofString "BadLine"), [(.ref 24)], [(.ref 492), (.ref 24), (.type "ValueError"), (.type "Exception"), (.type "BaseException"), (.type "object")], 491, (.ofString "BadLine"), true, [], [], false, none, false⟩), #[(some (.ref 476)), none, (some (.str (.ofString "BadLine") 799)), (some (.str (.ofString "BadLine") 807)), (some (.builtin "ValueError.__new__")), (some (.bool true))]⟩
def s7o493 : Obj := ⟨(.type "super"), none, (.fields #[(.ref 492), (.ref 492), (.ref 492)]), #[]⟩
def s7o494 : Obj := ⟨(.type "builtin_function_or_method"), none, (.fields #[(.builtin "object.__init_subclass__"), (.ref 492)]), #[]⟩
def s7o495 : Obj := ⟨(.type "tuple"), none, (.seq #[] 0), #[]⟩
def s7o496 : Obj := ⟨.none, none, (.fields #[]), #[]⟩
def s7o497 : Obj := ⟨(.type "tuple"), none, (.seq #[(.str (.ofString "_law_script") 829), (.str (.ofString "_law_k") 830)] 0), #[]⟩
def s7o498 : Obj := ⟨(.type "tuple"), none, (.seq #[] 0), #[]⟩
def s7o499 : Obj := ⟨.none, none, (.func ⟨(.ofString "_law_cell"), (.ofString "_law_cell"), defArgs (top 32), .stmts (defBody (top 32)), defScope (top 32), 0, [], .none, .none, .none, .none, none, .none, .none, 0⟩), #[]⟩
def s7o500 : Obj := ⟨(.type "code"), none, (.fields #[(.str (.ofString "_law_cell") 826), (.str (.ofString "_law_cell") 827), (.str (.ofString "/claim/cut.py") 828), (.int (97) 0), (.int (2) 0), (.int (0) 0), (.int (0) 0), (.int (3) 0), (.ref 495), (.bool true), (.int (181) 0), (.ref 496), .none, (.ref 497), (.ref 498), (.ref 499), (.int (831) 0), (.int (97) 0), (.str (.ofString "/claim/cut.py") 832)]), #[]⟩
def s7o501 : Obj := ⟨(.type "function"), none, (.func ⟨(.ofString "_law_cell"), (.ofString "_law_cell"), defArgs (top 32), .stmts (defBody (top 32)), defScope (top 32), 3, [], .none, .none, .none, (.str (.ofString "law_rangepools_k01_errors") 824), none, (.ref 500), .none, 0⟩), #[]⟩
def s7o502 : Obj := ⟨(.type "tuple"), none, (.seq #[] 0), #[]⟩
def s7o503 : Obj := ⟨.none, none, (.fields #[]), #[]⟩
def s7o504 : Obj := ⟨(.type "tuple"), none, (.seq #[(.str (.ofString "_law_script") 837), (.str (.ofString "_law_k") 838)] 0), #[]⟩
def s7o505 : Obj := ⟨(.type "tuple"), none, (.seq #[] 0), #[]⟩
def s7o506 : Obj := ⟨.none, none, (.func ⟨(.ofString "_law_box"), (.ofString "_law_box"), defArgs (top 33), .stmts (defBody (top 33)), defScope (top 33), 0, [], .none, .none, .none, .none, none, .none, .none, 0⟩), #[]⟩
def s7o507 : Obj := ⟨(.type "code"), none, (.fields #[(.str (.ofString "_law_box") 834), (.str (.ofString "_law_box") 835), (.str (.ofString "/claim/cut.py") 836), (.int (99) 0), (.int (2) 0), (.int (0) 0), (.int (0) 0), (.int (3) 0), (.ref 502), (.bool true), (.int (181) 0), (.ref 503), .none, (.ref 504), (.ref 505), (.ref 506), (.int (839) 0), (.int (99) 0), (.str (.ofString "/claim/cut.py") 840)]), #[]⟩
def s7o508 : Obj := ⟨(.type "function"), none, (.func ⟨(.ofString "_law_box"), (.ofString "_law_box"), defArgs (top 33), .stmts (defBody (top 33)), defScope (top 33), 3, [], .none, .none, .none, (.str (.ofString "law_rangepools_k01_errors") 824), none, (.ref 507), .none, 0⟩), #[]⟩
def s7o509 : Obj := ⟨(.type "tuple"), none, (.seq #[] 0), #[]⟩
def s7o510 : Obj := ⟨.none, none, (.fields #[]), #[]⟩
def s7o511 : Obj := ⟨(.type "tuple"), none, (.seq #[(.str (.ofString "_law_box_here") 845), (.str (.ofString "_law_many") 846), (.str (.ofString "_law_digit") 847), (.str (.ofString "_law_mixed") 848)] 0), #[]⟩
def s7o512 : Obj := ⟨(.type "tuple"), none, (.seq #[] 0), #[]⟩
def s7o513 : Obj := ⟨.none, none, (.func ⟨(.ofString "_law_take"), (.ofString "_law_take"), defArgs (top 34), .stmts (defBody (top 34)), defScope (top 34), 0, [], .none, .none, .none, .none, none, .none, .none, 0⟩), #[]⟩
def s7o514 : Obj := ⟨(.type "code"), none, (.fields #[(.str (.ofString "_law_take") 842), (.str (.ofString "_law_take") 843), (.str (.ofString "/claim/cut.py") 844), (.int (101) 0), (.int (2) 0), (.int (0) 0), (.int (0) 0), (.int (3) 0), (.ref 509), (.bool true), (.int (181) 0), (.ref 510), .none, (.ref 511), (.ref 512), (.ref 513), (.int (849) 0), (.int (101) 0), (.str (.ofString "/claim/cut.py") 850)]), #[]⟩
def s7o515 : Obj := ⟨(.type "function"), none, (.func ⟨(.ofString "_law_take"), (.ofString "_law_take"), defArgs (top 34), .stmts (defBody (top 34)), defScope (top 34), 3, [], .none, .none, .none, (.str (.ofString "law_rangepools_k01_errors") 824), none, (.ref 514), .none, 0⟩), #[]⟩
def s7o516 : Obj := ⟨(.type "tuple"), none, (.seq #[] 0), #[]⟩
def s7o517 : Obj := ⟨.none, none, (.fields #[]), #[]⟩
def s7o518 : Obj := ⟨(.type "tuple"), none, (.seq #[(.str (.ofString "_law_one") 855), (.str (.ofString "_law_other") 856)] 0), #[]⟩
def s7o519 : Obj := ⟨(.type "tuple"), none, (.seq #[] 0), #[]⟩
def s7o520 : Obj := ⟨.none, none, (.func ⟨(.ofString "_law_same"), (.ofString "_law_same"), defArgs (top 35), .stmts (defBody (top 35)), defScope (top 35), 0, [], .none, .none, .none, .none, none, .none, .none, 0⟩), #[]⟩
def s7o521 : Obj := ⟨(.type "code"), none, (.fields #[(.str (.ofString "_law_same") 852), (.str (.ofString "_law_same") 853), (.str (.ofString "/claim/cut.py") 854), (.int (110) 0), (.int (2) 0), (.int (0) 0), (.int (0) 0), (.int (3) 0), (.ref 516), (.bool true), (.int (181) 0), (.ref 517), .none, (.ref 518), (.ref 519), (.ref 520), (.int (857) 0), (.int (110) 0), (.str (.ofString "/claim/cut.py") 858)]), #[]⟩
def s7o522 : Obj := ⟨(.type "function"), none, (.func ⟨(.ofString "_law_same"), (.ofString "_law_same"), defArgs (top 35), .stmts (defBody (top 35)), defScope (top 35), 3, [], .none, .none, .none, (.str (.ofString "law_rangepools_k01_errors") 824), none, (.ref 521), .none, 0⟩), #[]⟩
def s7o523 : Obj := ⟨(.type "tuple"), none, (.seq #[] 0), #[]⟩
def s7o524 : Obj := ⟨.none, none, (.fields #[]), #[]⟩
def s7o525 : Obj := ⟨.none, none, (.func ⟨(.ofString "_law_kinds"), (.ofString "_law_kinds"), defArgs (top 36), .stmts (defBody (top 36)), defScope (top 36), 0, [], .none, .none, .none, .none, none, .none, .none, 0⟩), #[]⟩
def s7o526 : Obj := ⟨(.type "code"), none, (.fields #[(.str (.ofString "_law_kinds") 860), (.str (.ofString "_law_kinds") 861), (.str (.ofString "/claim/cut.py") 862), (.int (112) 0), (.int (1) 0), (.int (0) 0), (.int (0) 0), (.int (3) 0), (.ref 523), (.bool true), (.int (181) 0), (.ref 524), .none, .none, .none, (.ref 525), (.int (863) 0), (.int (112) 0), (.str (.ofString "/claim/cut.py") 864)]), #[]⟩
def s7o527 : Obj := ⟨(.type "function"), none, (.func ⟨(.ofString "_law_kinds"), (.ofString "_law_kinds"), defArgs (top 36), .stmts (defBody (top 36)), defScope (top 36), 3, [], .none, .none, .none, (.str (.ofString "law_rangepools_k01_errors") 824), none, (.ref 526), .none, 0⟩), #[]⟩
def s7o528 : Obj := ⟨(.type "tuple"), none, (.seq #[] 0), #[]⟩
def s7o529 : Obj := ⟨.none, none, (.fields #[]), #[]⟩
def s7o530 : Obj := ⟨.none, none, (.func ⟨(.ofString "_law_bases"), (.ofString "_law_bases"), defArgs (top 37), .stmts (defBody (top 37)), defScope (top 37), 0, [], .none, .none, .none, .none, none, .none, .none, 0⟩), #[]⟩
def s7o531 : Obj := ⟨(.type "code"), none, (.fields #[(.str (.ofString "_law_bases") 866), (.str (.ofString "_law_bases") 867), (.str (.ofString "/claim/cut.py") 868), (.int (124) 0), (.int (0) 0), (.int (0) 0), (.int (0) 0), (.int (3) 0), (.ref 528), (.bool true), (.int (181) 0), (.ref 529), .none, .none, .none, (.ref 530), (.int (869) 0), (.int (124) 0), (.str (.ofString "/claim/cut.py") 870)]), #[]⟩
def s7o532 : Obj := ⟨(.type "function"), none, (.func ⟨(.ofString "_law_bases"), (.ofString "_law_bases"), defArgs (top 37), .stmts (defBody (top 37)), defScope (top 37), 3, [], .none, .none, .none, (.str (.ofString "law_rangepools_k01_errors") 824), none, (.ref 531), .none, 0⟩), #[]⟩
def s7o533 : Obj := ⟨(.type "tuple"), none, (.seq #[] 0), #[]⟩
def s7o534 : Obj := ⟨.none, none, (.fields #[]), #[]⟩
def s7o535 : Obj := ⟨(.type "tuple"), none, (.seq #[(.str (.ofString "_law_script") 875), (.str (.ofString "_law_box_here") 876), (.str (.ofString "_law_a") 877), (.str (.ofString "_law_b") 878), (.str (.ofString "_law_kept") 879), (.str (.ofString "_law_more") 880), (.str (.ofString "_law_k") 881), (.str (.ofString "_law_passed") 882)] 0), #[]⟩
def s7o536 : Obj := ⟨(.type "tuple"), none, (.seq #[] 0), #[]⟩
def s7o537 : Obj := ⟨.none, none, (.func ⟨(.ofString "law"), (.ofString "law"), defArgs (top 38), .stmts (defBody (top 38)), defScope (top 38), 0, [], .none, .none, .none, .none, none, .none, .none, 0⟩), #[]⟩
def s7o538 : Obj := ⟨(.type "code"), none, (.fields #[(.str (.ofString "law") 872), (.str (.ofString "law") 873), (.str (.ofString "/claim/cut.py") 874), (.int (132) 0), (.int (1) 0), (.int (0) 0), (.int (0) 0), (.int (3) 0), (.ref 533), (.bool true), (.int (181) 0), (.ref 534), .none, (.ref 535), (.ref 536), (.ref 537), (.int (883) 0), (.int (132) 0), (.str (.ofString "/claim/cut.py") 884)]), #[]⟩
def s7o539 : Obj := ⟨(.type "function"), none, (.func ⟨(.ofString "law"), (.ofString "law"), defArgs (top 38), .stmts (defBody (top 38)), defScope (top 38), 3, [], .none, .none, .none, (.str (.ofString "law_rangepools_k01_errors") 824), none, (.ref 538), .none, 0⟩), #[]⟩
def s7T (P : Params) : BT := (.node (zo0 P) (.node (zo1 P) (.node (s7o3 P) (.node zo7 (.node s0o15 (.node s0o31 (.node s0o63 (.node s2o127 (.node s4o255 (.node s7o511 .nil .nil) .nil) (.node (s6o383 P) .nil .nil)) (.node s3o191 (.node s5o319 .nil .nil) (.node s6o447 .nil .nil))) (.node s1o95 (.node s2o159 (.node s4o287 .nil .nil) (.node (s6o415 P) .nil .nil)) (.node s3o223 (.node s5o351 .nil .nil) (.node s7o479 .nil .nil)))) (.node s0o47 (.node s1o79 (.node s2o143 (.node s4o271 (.node s7o527 .nil .nil) .nil) (.node s6o399 .nil .nil)) (.node s3o207 (.node s5o335 .nil .nil) (.node s7o463 .nil .nil))) (.node s1o111 (.node s3o175 (.node s4o303 .nil .nil) (.node s6o431 .nil .nil)) (.node s4o239 (.node s5o367 .nil .nil) (.node s7o495 .nil .nil))))) (.node (s0o23 P) (.node s0o39 (.node s1o71 (.node s2o135 (.node (s4o263 P) (.node s7o519 .nil .nil) .nil) (.node s6o391 .nil .nil)) (.node s3o199 (.node s5o327 .nil .nil) (.node s6o455 .nil .nil))) (.node s1o103 (.node s3o167 (.node s4o295 .nil .nil) (.node s6o423 .nil .nil)) (.node (s4o231 P) (.node s5o359 .nil .nil) (.node s7o487 .nil .nil)))) (.node s0o55 (.node s1o87 (.node s2o151 (.node s4o279 (.node s7o535 .nil .nil) .nil) (.node s6o407 .nil .nil)) (.node s3o215 (.node s5o343 .nil .nil) (.node s7o471 .nil .nil))) (.node s2o119 (.node s3o183 (.node s5o311 .nil .nil) (.node s6o439 .nil .nil)) (.node s4o247 (.node s5o375 .nil .nil) (.node s7o503 .nil .nil)))))) (.node ao11 (.node s0o19 (.node s0o35 (.node s1o67 (.node s2o131 (.node s4o259 (.node s7o515 .nil .nil) .nil) (.node s6o387 .nil .nil)) (.node s3o195 (.node s5o323 .nil .nil) (.node s6o451 .nil .nil))) (.node s1o99 (.node s3o163 (.node s4o291 .nil .nil) (.node s6o419 .nil .nil)) (.node s3o227 (.node s5o355 .nil .nil) (.node s7o483 .nil .nil)))) (.node s0o51 (.node s1o83 (.node s2o147 (.node s4o275 (.node s7o531 .nil .nil) .nil) (.node s6o403 .nil .nil)) (.node s3o211 (.node (s5o339 P) .nil .nil) (.node s7o467 .nil .nil))) (.node s2o115 (.node s3o179 (.node (s5o307 P) .nil .nil) (.node s6o435 .nil .nil)) (.node s4o243 (.node s5o371 .nil .nil) (.node s7o499 .nil .nil))))) (.node s0o27 (.node s0o43 (.node s1o75 (.node s2o139 (.node s4o267 (.node s7o523 .nil .nil) .nil) (.node s6o395 .nil .nil)) (.node s3o203 (.node s5o331 .nil .nil) (.node (s7o459 P) .nil .nil))) (.node s1o107 (.node s3o171 (.node s4o299 .nil .nil) (.node s6o427 .nil .nil)) (.node s4o235 (.node s5o363 .nil .nil) (.node (s7o491 P) .nil .nil)))) (.node s0o59 (.node s1o91 (.node s2o155 (.node s4o283 (.node s7o539 .nil .nil) .nil) (.node s6o411 .nil .nil)) (.node s3o219 (.node s5o347 .nil .nil) (.node s7o475 .nil .nil))) (.node s2o123 (.node (s3o187 P) (.node s5o315 .nil .nil) (.node s6o443 .nil .nil)) (.node s4o251 (.node s5o379 .nil .nil) (.node s7o507 .nil .nil))))))) (.node zo5 (.node zo9 (.node (s0o17 P) (.node s0o33 (.node s1o65 (.node s2o129 (.node s4o257 (.node s7o513 .nil .nil) .nil) (.node s6o385 .nil .nil)) (.node (s3o193 P) (.node s5o321 .nil .nil) (.node s6o449 .nil .nil))) (.node s1o97 (.node s3o161 (.node s4o289 .nil .nil) (.node s6o417 .nil .nil)) (.node (s3o225 P) (.node s5o353 .nil .nil) (.node s7o481 .nil .nil)))) (.node s0o49 (.node s1o81 (.node s2o145 (.node s4o273 (.node s7o529 .nil .nil) .nil) (.node s6o401 .nil .nil)) (.node s3o209 (.node s5o337 .nil .nil) (.node s7o465 .nil .nil))) (.node s2o113 (.node s3o177 (.node s5o305 .nil .nil) (.node s6o433 .nil .nil)) (.node s4o241 (.node s5o369 .nil .nil) (.node s7o497 .nil .nil))))) (.node s0o25 (.node s0o41 (.node s1o73 (.node s2o137 (.node s4o265 (.node s7o521 .nil .nil) .nil) (.node s6o393 .nil .nil)) (.node s3o201 (.node s5o329 .nil .nil) (.node s7o457 .nil .nil))) (.node s1o105 (.node s3o169 (.node s4o297 .nil .nil) (.node s6o425 .nil .nil)) (.node s4o233 (.node s5o361 .nil .nil) (.node s7o489 .nil .nil)))) (.node s0o57 (.node s1o89 (.node s2o153 (.node s4o281 (.node s7o537 .nil .nil) .nil) (.node s6o409 .nil .nil)) (.node s3o217 (.node (s5o345 P) .nil .nil) (.node s7o473 .nil .nil))) (.node s2o121 (.node s3o185 (.node s5o313 .nil .nil) (.node s6o441 .nil .nil)) (.node s4o249 (.node (s5o377 P) .nil .nil) (.node s7o505 .nil .nil)))))) (.node ao13 (.node s0o21 (.node s0o37 (.node s1o69 (.node s2o133 (.node s4o261 (.node s7o517 .nil .nil) .nil) (.node s6o389 .nil .nil)) (.node s3o197 (.node s5o325 .nil .nil) (.node (s6o453 P) .nil .nil))) (.node s1o101 (.node s3o165 (.node s4o293 .nil .nil) (.node (s6o421 P) .nil .nil)) (.node s4o229 (.node s5o357 .nil .nil) (.node s7o485 .nil .nil)))) (.node s0o53 (.node s1o85 (.node s2o149 (.node s4o277 (.node s7o533 .nil .nil) .nil) (.node s6o405 .nil .nil)) (.node s3o213 (.node s5o341 .nil .nil) (.node s7o469 .nil .nil))) (.node s2o117 (.node s3o181 (.node s5o309 .nil .nil) (.node s6o437 .nil .nil)) (.node s4o245 (.node s5o373 .nil .nil) (.node s7o501 .nil .nil))))) (.node s0o29 (.node s0o45 (.node s1o77 (.node s2o141 (.node (s4o269 P) (.node s7o525 .nil .nil) .nil) (.node s6o397 .nil .nil)) (.node s3o205 (.node s5o333 .nil .nil) (.node s7o461 .nil .nil))) (.node s1o109 (.node s3o173 (.node (s4o301 P) .nil .nil) (.node s6o429 .nil .nil)) (.node s4o237 (.node s5o365 .nil .nil) (.node s7o493 .nil .nil)))) (.node s0o61 (.node s1o93 (.node s2o157 (.node s4o285 .nil .nil) (.node s6o413 .nil .nil)) (.node s3o221 (.node s5o349 .nil .nil) (.node s7o477 .nil .nil))) (.node s2o125 (.node s3o189 (.node s5o317 .nil .nil) (.node s6o445 .nil .nil)) (.node s4o253 (.node s6o381 .nil .nil) (.node s7o509 .nil .nil)))))))) (.node zo2 (.node zo4 (.node zo8 (.node s0o16 (.node s0o32 (.node s1o64 (.node s2o128 (.node s4o256 (.node s7o512 .nil .nil) .nil) (.node s6o384 .nil .nil)) (.node s3o192 (.node (s5o320 P) .nil .nil) (.node s6o448 .nil .nil))) (.node (s1o96 P) (.node s3o160 (.node (s4o288 P) .nil .nil) (.node s6o416 .nil .nil)) (.node s3o224 (.node s5o352 .nil .nil) (.node s7o480 .nil .nil)))) (.node (s0o48 P) (.node s1o80 (.node (s2o144 P) (.node s4o272 (.node s7o528 .nil .nil) .nil) (.node s6o400 .nil .nil)) (.node s3o208 (.node s5o336 .nil .nil) (.node s7o464 .nil .nil))) (.node s2o112 (.node s3o176 (.node s4o304 .nil .nil) (.node s6o432 .nil .nil)) (.node s4o240 (.node s5o368 .nil .nil) (.node s7o496 .nil .nil))))) (.node s7o24 (.node s0o40 (.node (s1o72 P) (.node s2o136 (.node s4o264 (.node s7o520 .nil .nil) .nil) (.node s6o392 .nil .nil)) (.node s3o200 (.node s5o328 .nil .nil) (.node s6o456 .nil .nil))) (.node s1o104 (.node (s3o168 P) (.node s4o296 .nil .nil) (.node s6o424 .nil .nil)) (.node s4o232 (.node s5o360 .nil .nil) (.node s7o488 .nil .nil)))) (.node s0o56 (.node s1o88 (.node s2o152 (.node s4o280 (.node s7o536 .nil .nil) .nil) (.node s6o408 .nil .nil)) (.node s3o216 (.node s5o344 .nil .nil) (.node (s7o472 P) .nil .nil))) (.node (s2o120 P) (.node s3o184 (.node s5o312 .nil .nil) (.node (s6o440 P) .nil .nil)) (.node s4o248 (.node s5o376 .nil .nil) (.node s7o504 .nil .nil)))))) (.node s7o12 (.node s0o20 (.node (s0o36 P) (.node s1o68 (.node (s2o132 P) (.node s4o260 (.node s7o516 .nil .nil) .nil) (.node s6o388 .nil .nil)) (.node s3o196 (.node s5o324 .nil .nil) (.node s6o452 .nil .nil))) (.node s1o100 (.node s3o164 (.node s4o292 .nil .nil) (.node s6o420 .nil .nil)) (.node s3o228 (.node s5o356 .nil .nil) (.node s7o484 .nil .nil)))) (.node s0o52 (.node (s1o84 P) (.node s2o148 (.node s4o276 (.node s7o532 .nil .nil) .nil) (.node s6o404 .nil .nil)) (.node (s3o212 P) (.node s5o340 .nil .nil) (.node s7o468 .nil .nil))) (.node s2o116 (.node s3o180 (.node s5o308 .nil .nil) (.node s6o436 .nil .nil)) (.node (s4o244 P) (.node s5o372 .nil .nil) (.node s7o500 .nil .nil))))) (.node s0o28 (.node s0o44 (.node s1o76 (.node s2o140 (.node s4o268 (.node s7o524 .nil .nil) .nil) (.node (s6o396 P) .nil .nil)) (.node s3o204 (.node s5o332 .nil .nil) (.node s7o460 .nil .nil))) (.node (s1o108 P) (.node s3o172 (.node s4o300 .nil .nil) (.node s6o428 .nil .nil)) (.node s4o236 (.node (s5o364 P) .nil .nil) (.node s7o492 .nil .nil)))) (.node (s0o60 P) (.node s1o92 (.node (s2o156 P) (.node s4o284 .nil .nil) (.node s6o412 .nil .nil)) (.node s3o220 (.node s5o348 .nil .nil) (.node s7o476 .nil .nil))) (.node s2o124 (.node s3o188 (.node s5o316 .nil .nil) (.node s6o444 .nil .nil)) (.node s4o252 (.node s5o380 .nil .nil) (.node s7o508 .nil .nil))))))) (.node zo6 (.node zo10 (.node s0o18 (.node s0o34 (.node (s1o66 P) (.node s2o130 (.node s4o258 (.node s7o514 .nil .nil) .nil) (.node s6o386 .nil .nil)) (.node s3o194 (.node s5o322 .nil .nil) (.node s6o450 .nil .nil))) (.node s1o98 (.node (s3o162 P) (.node s4o290 .nil .nil) (.node s6o418 .nil .nil)) (.node s3o226 (.node s5o354 .nil .nil) (.node s7o482 .nil .nil)))) (.node s0o50 (.node s1o82 (.node s2o146 (.node s4o274 (.node s7o530 .nil .nil) .nil) (.node (s6o402 P) .nil .nil)) (.node s3o210 (.node s5o338 .nil .nil) (.node s7o466 .nil .nil))) (.node (s2o114 P) (.node s3o178 (.node s5o306 .nil .nil) (.node (s6o434 P) .nil .nil)) (.node s4o242 (.node s5o370 .nil .nil) (.node s7o498 .nil .nil))))) (.node s0o26 (.node (s0o42 P) (.node s1o74 (.node (s2o138 P) (.node s4o266 (.node s7o522 .nil .nil) .nil) (.node s6o394 .nil .nil)) (.node s3o202 (.node s5o330 .nil .nil) (.node s7o458 .nil .nil))) (.node s1o106 (.node s3o170 (.node s4o298 .nil .nil) (.node s6o426 .nil .nil)) (.node s4o234 (.node s5o362 .nil .nil) (.node s7o490 .nil .nil)))) (.node s0o58 (.node (s1o90 P) (.node s2o154 (.node (s4o282 P) (.node s7o538 .nil .nil) .nil) (.node s6o410 .nil .nil)) (.node s3o218 (.node s5o346 .nil .nil) (.node s7o474 .nil .nil))) (.node s2o122 (.node s3o186 (.node s5o314 .nil .nil) (.node s6o442 .nil .nil)) (.node (s4o250 P) (.node s5o378 .nil .nil) (.node s7o506 .nil .nil)))))) (.node ao14 (.node s0o22 (.node s0o38 (.node s1o70 (.node s2o134 (.node s4o262 (.node s7o518 .nil .nil) .nil) (.node s6o390 .nil .nil)) (.node s3o198 (.node (s5o326 P) .nil .nil) (.node s6o454 .nil .nil))) (.node (s1o102 P) (.node s3o166 (.node s4o294 .nil .nil) (.node s6o422 .nil .nil)) (.node s4o230 (.node (s5o358 P) .nil .nil) (.node s7o486 .nil .nil)))) (.node (s0o54 P) (.node s1o86 (.node (s2o150 P) (.node s4o278 (.node s7o534 .nil .nil) .nil) (.node s6o406 .nil .nil)) (.node s3o214 (.node s5o342 .nil .nil) (.node s7o470 .nil .nil))) (.node s2o118 (.node s3o182 (.node s5o310 .nil .nil) (.node s6o438 .nil .nil)) (.node s4o246 (.node s5o374 .nil .nil) (.node s7o502 .nil .nil))))) (.node (s0o30 P) (.node s0o46 (.node (s1o78 P) (.node s2o142 (.node s4o270 (.node s7o526 .nil .nil) .nil) (.node s6o398 .nil .nil)) (.node (s3o206 P) (.node s5o334 .nil .nil) (.node s7o462 .nil .nil))) (.node s1o110 (.node (s3o174 P) (.node s4o302 .nil .nil) (.node s6o430 .nil .nil)) (.node s4o238 (.node s5o366 .nil .nil) (.node s7o494 .nil .nil)))) (.node s0o62 (.node s1o94 (.node s2o158 (.node s4o286 .nil .nil) (.node s6o414 .nil .nil)) (.node s3o222 (.node s5o350 .nil .nil) (.node (s7o478 P) .nil .nil))) (.node (s2o126 P) (.node s3o190 (.node s5o318 .nil .nil) (.node s6o446 .nil .nil)) (.node s4o254 (.node s6o382 .nil .nil) (.node s7o510 .nil .nil)))))))))
def s7 : LH.St := ⟨s7T, 540, #[], ⟨0, 0, 0, 0⟩, 886⟩
def fT (P : Params) : BT := (.node (zo0 P) (.node (zo1 P) (.node (s7o3 P) (.node zo7 (.node s0o15 (.node s0o31 (.node s0o63 (.node s2o127 (.node s4o255 (.node s7o511 .nil .nil) .nil) (.node (s6o383 P) .nil .nil)) (.node s3o191 (.node s5o319 .nil .nil) (.node s6o447 .nil .nil))) (.node s1o95 (.node s2o159 (.node s4o287 .nil .nil) (.node (s6o415 P) .nil .nil)) (.node s3o223 (.node s5o351 .nil .nil) (.node s7o479 .nil .nil)))) (.node s0o47 (.node s1o79 (.node s2o143 (.node s4o271 (.node s7o527 .nil .nil) .nil) (.node s6o399 .nil .nil)) (.node s3o207 (.node s5o335 .nil .nil) (.node s7o463 .nil .nil))) (.node s1o111 (.node s3o175 (.node s4o303 .nil .nil) (.node s6o431 .nil .nil)) (.node s4o239 (.node s5o367 .nil .nil) (.node s7o495 .nil .nil))))) (.node (s0o23 P) (.node s0o39 (.node s1o71 (.node s2o135 (.node (s4o263 P) (.node s7o519 .nil .nil) .nil) (.node s6o391 .nil .nil)) (.node s3o199 (.node s5o327 .nil .nil) (.node s6o455 .nil .nil))) (.node s1o103 (.node s3o167 (.node s4o295 .nil .nil) (.node s6o423 .nil .nil)) (.node (s4o231 P) (.node s5o359 .nil .nil) (.node s7o487 .nil .nil)))) (.node s0o55 (.node s1o87 (.node s2o151 (.node s4o279 (.node s7o535 .nil .nil) .nil) (.node s6o407 .nil .nil)) (.node s3o215 (.node s5o343 .nil .nil) (.node s7o471 .nil .nil))) (.node s2o119 (.node s3o183 (.node s5o311 .nil .nil) (.node s6o439 .nil .nil)) (.node s4o247 (.node s5o375 .nil .nil) (.node s7o503 .nil .nil)))))) (.node ao11 (.node s0o19 (.node s0o35 (.node s1o67 (.node s2o131 (.node s4o259 (.node s7o515 .nil .nil) .nil) (.node s6o387 .nil .nil)) (.node s3o195 (.node s5o323 .nil .nil) (.node s6o451 .nil .nil))) (.node s1o99 (.node s3o163 (.node s4o291 .nil .nil) (.node s6o419 .nil .nil)) (.node s3o227 (.node s5o355 .nil .nil) (.node s7o483 .nil .nil)))) (.node s0o51 (.node s1o83 (.node s2o147 (.node s4o275 (.node s7o531 .nil .nil) .nil) (.node s6o403 .nil .nil)) (.node s3o211 (.node (s5o339 P) .nil .nil) (.node s7o467 .nil .nil))) (.node s2o115 (.node s3o179 (.node (s5o307 P) .nil .nil) (.node s6o435 .nil .nil)) (.node s4o243 (.node s5o371 .nil .nil) (.node s7o499 .nil .nil))))) (.node s0o27 (.node s0o43 (.node s1o75 (.node s2o139 (.node s4o267 (.node s7o523 .nil .nil) .nil) (.node s6o395 .nil .nil)) (.node s3o203 (.node s5o331 .nil .nil) (.node (s7o459 P) .nil .nil))) (.node s1o107 (.node s3o171 (.node s4o299 .nil .nil) (.node s6o427 .nil .nil)) (.node s4o235 (.node s5o363 .nil .nil) (.node (s7o491 P) .nil .nil)))) (.node s0o59 (.node s1o91 (.node s2o155 (.node s4o283 (.node s7o539 .nil .nil) .nil) (.node s6o411 .nil .nil)) (.node s3o219 (.node s5o347 .nil .nil) (.node s7o475 .nil .nil))) (.node s2o123 (.node (s3o187 P) (.node s5o315 .nil .nil) (.node s6o443 .nil .nil)) (.node s4o251 (.node s5o379 .nil .nil) (.node s7o507 .nil .nil))))))) (.node zo5 (.node zo9 (.node (s0o17 P) (.node s0o33 (.node s1o65 (.node s2o129 (.node s4o257 (.node s7o513 .nil .nil) .nil) (.node s6o385 .nil .nil)) (.node (s3o193 P) (.node s5o321 .nil .nil) (.node s6o449 .nil .nil))) (.node s1o97 (.node s3o161 (.node s4o289 .nil .nil) (.node s6o417 .nil .nil)) (.node (s3o225 P) (.node s5o353 .nil .nil) (.node s7o481 .nil .nil)))) (.node s0o49 (.node s1o81 (.node s2o145 (.node s4o273 (.node s7o529 .nil .nil) .nil) (.node s6o401 .nil .nil)) (.node s3o209 (.node s5o337 .nil .nil) (.node s7o465 .nil .nil))) (.node s2o113 (.node s3o177 (.node s5o305 .nil .nil) (.node s6o433 .nil .nil)) (.node s4o241 (.node s5o369 .nil .nil) (.node s7o497 .nil .nil))))) (.node s0o25 (.node s0o41 (.node s1o73 (.node s2o137 (.node s4o265 (.node s7o521 .nil .nil) .nil) (.node s6o393 .nil .nil)) (.node s3o201 (.node s5o329 .nil .nil) (.node s7o457 .nil .nil))) (.node s1o105 (.node s3o169 (.node s4o297 .nil .nil) (.node s6o425 .nil .nil)) (.node s4o233 (.node s5o361 .nil .nil) (.node s7o489 .nil .nil)))) (.node s0o57 (.node s1o89 (.node s2o153 (.node s4o281 (.node s7o537 .nil .nil) .nil) (.node s6o409 .nil .nil)) (.node s3o217 (.node (s5o345 P) .nil .nil) (.node s7o473 .nil .nil))) (.node s2o121 (.node s3o185 (.node s5o313 .nil .nil) (.node s6o441 .nil .nil)) (.node s4o249 (.node (s5o377 P) .nil .nil) (.node s7o505 .nil .nil)))))) (.node ao13 (.node s0o21 (.node s0o37 (.node s1o69 (.node s2o133 (.node s4o261 (.node s7o517 .nil .nil) .nil) (.node s6o389 .nil .nil)) (.node s3o197 (.node s5o325 .nil .nil) (.node (s6o453 P) .nil .nil))) (.node s1o101 (.node s3o165 (.node s4o293 .nil .nil) (.node (s6o421 P) .nil .nil)) (.node s4o229 (.node s5o357 .nil .nil) (.node s7o485 .nil .nil)))) (.node s0o53 (.node s1o85 (.node s2o149 (.node s4o277 (.node s7o533 .nil .nil) .nil) (.node s6o405 .nil .nil)) (.node s3o213 (.node s5o341 .nil .nil) (.node s7o469 .nil .nil))) (.node s2o117 (.node s3o181 (.node s5o309 .nil .nil) (.node s6o437 .nil .nil)) (.node s4o245 (.node s5o373 .nil .nil) (.node s7o501 .nil .nil))))) (.node s0o29 (.node s0o45 (.node s1o77 (.node s2o141 (.node (s4o269 P) (.node s7o525 .nil .nil) .nil) (.node s6o397 .nil .nil)) (.node s3o205 (.node s5o333 .nil .nil) (.node s7o461 .nil .nil))) (.node s1o109 (.node s3o173 (.node (s4o301 P) .nil .nil) (.node s6o429 .nil .nil)) (.node s4o237 (.node s5o365 .nil .nil) (.node s7o493 .nil .nil)))) (.node s0o61 (.node s1o93 (.node s2o157 (.node s4o285 .nil .nil) (.node s6o413 .nil .nil)) (.node s3o221 (.node s5o349 .nil .nil) (.node s7o477 .nil .nil))) (.node s2o125 (.node s3o189 (.node s5o317 .nil .nil) (.node s6o445 .nil .nil)) (.node s4o253 (.node s6o381 .nil .nil) (.node s7o509 .nil .nil)))))))) (.node zo2 (.node zo4 (.node zo8 (.node s0o16 (.node s0o32 (.node s1o64 (.node s2o128 (.node s4o256 (.node s7o512 .nil .nil) .nil) (.node s6o384 .nil .nil)) (.node s3o192 (.node (s5o320 P) .nil .nil) (.node s6o448 .nil .nil))) (.node (s1o96 P) (.node s3o160 (.node (s4o288 P) .nil .nil) (.node s6o416 .nil .nil)) (.node s3o224 (.node s5o352 .nil .nil) (.node s7o480 .nil .nil)))) (.node (s0o48 P) (.node s1o80 (.node (s2o144 P) (.node s4o272 (.node s7o528 .nil .nil) .nil) (.node s6o400 .nil .nil)) (.node s3o208 (.node s5o336 .nil .nil) (.node s7o464 .nil .nil))) (.node s2o112 (.node s3o176 (.node s4o304 .nil .nil) (.node s6o432 .nil .nil)) (.node s4o240 (.node s5o368 .nil .nil) (.node s7o496 .nil .nil))))) (.node s7o24 (.node s0o40 (.node (s1o72 P) (.node s2o136 (.node s4o264 (.node s7o520 .nil .nil) .nil) (.node s6o392 .nil .nil)) (.node s3o200 (.node s5o328 .nil .nil) (.node s6o456 .nil .nil))) (.node s1o104 (.node (s3o168 P) (.node s4o296 .nil .nil) (.node s6o424 .nil .nil)) (.node s4o232 (.node s5o360 .nil .nil) (.node s7o488 .nil .nil)))) (.node s0o56 (.node s1o88 (.node s2o152 (.node s4o280 (.node s7o536 .nil .nil) .nil) (.node s6o408 .nil .nil)) (.node s3o216 (.node s5o344 .nil .nil) (.node (s7o472 P) .nil .nil))) (.node (s2o120 P) (.node s3o184 (.node s5o312 .nil .nil) (.node (s6o440 P) .nil .nil)) (.node s4o248 (.node s5o376 .nil .nil) (.node s7o504 .nil .nil)))))) (.node s7o12 (.node s0o20 (.node (s0o36 P) (.node s1o68 (.node (s2o132 P) (.node s4o260 (.node s7o516 .nil .nil) .nil) (.node s6o388 .nil .nil)) (.node s3o196 (.node s5o324 .nil .nil) (.node s6o452 .nil .nil))) (.node s1o100 (.node s3o164 (.node s4o292 .nil .nil) (.node s6o420 .nil .nil)) (.node s3o228 (.node s5o356 .nil .nil) (.node s7o484 .nil .nil)))) (.node s0o52 (.node (s1o84 P) (.node s2o148 (.node s4o276 (.node s7o532 .nil .nil) .nil) (.node s6o404 .nil .nil)) (.node (s3o212 P) (.node s5o340 .nil .nil) (.node s7o468 .nil .nil))) (.node s2o116 (.node s3o180 (.node s5o308 .nil .nil) (.node s6o436 .nil .nil)) (.node (s4o244 P) (.node s5o372 .nil .nil) (.node s7o500 .nil .nil))))) (.node s0o28 (.node s0o44 (.node s1o76 (.node s2o140 (.node s4o268 (.node s7o524 .nil .nil) .nil) (.node (s6o396 P) .nil .nil)) (.node s3o204 (.node s5o332 .nil .nil) (.node s7o460 .nil .nil))) (.node (s1o108 P) (.node s3o172 (.node s4o300 .nil .nil) (.node s6o428 .nil .nil)) (.node s4o236 (.node (s5o364 P) .nil .nil) (.node s7o492 .nil .nil)))) (.node (s0o60 P) (.node s1o92 (.node (s2o156 P) (.node s4o284 .nil .nil) (.node s6o412 .nil .nil)) (.node s3o220 (.node s5o348 .nil .nil) (.node s7o476 .nil .nil))) (.node s2o124 (.node s3o188 (.node s5o316 .nil .nil) (.node s6o444 .nil .nil)) (.node s4o252 (.node s5o380 .nil .nil) (.node s7o508 .nil .nil))))))) (.node zo6 (.node zo10 (.node s0o18 (.node s0o34 (.node (s1o66 P) (.node s2o130 (.node s4o258 (.node s7o514 .nil .nil) .nil) (.node s6o386 .nil .nil)) (.node s3o194 (.node s5o322 .nil .nil) (.node s6o450 .nil .nil))) (.node s1o98 (.node (s3o162 P) (.node s4o290 .nil .nil) (.node s6o418 .nil .nil)) (.node s3o226 (.node s5o354 .nil .nil) (.node s7o482 .nil .nil)))) (.node s0o50 (.node s1o82 (.node s2o146 (.node s4o274 (.node s7o530 .nil .nil) .nil) (.node (s6o402 P) .nil .nil)) (.node s3o210 (.node s5o338 .nil .nil) (.node s7o466 .nil .nil))) (.node (s2o114 P) (.node s3o178 (.node s5o306 .nil .nil) (.node (s6o434 P) .nil .nil)) (.node s4o242 (.node s5o370 .nil .nil) (.node s7o498 .nil .nil))))) (.node s0o26 (.node (s0o42 P) (.node s1o74 (.node (s2o138 P) (.node s4o266 (.node s7o522 .nil .nil) .nil) (.node s6o394 .nil .nil)) (.node s3o202 (.node s5o330 .nil .nil) (.node s7o458 .nil .nil))) (.node s1o106 (.node s3o170 (.node s4o298 .nil .nil) (.node s6o426 .nil .nil)) (.node s4o234 (.node s5o362 .nil .nil) (.node s7o490 .nil .nil)))) (.node s0o58 (.node (s1o90 P) (.node s2o154 (.node (s4o282 P) (.node s7o538 .nil .nil) .nil) (.node s6o410 .nil .nil)) (.node s3o218 (.node s5o346 .nil .nil) (.node s7o474 .nil .nil))) (.node s2o122 (.node s3o186 (.node s5o314 .nil .nil) (.node s6o442 .nil .nil)) (.node (s4o250 P) (.node s5o378 .nil .nil) (.node s7o506 .nil .nil)))))) (.node ao14 (.node s0o22 (.node s0o38 (.node s1o70 (.node s2o134 (.node s4o262 (.node s7o518 .nil .nil) .nil) (.node s6o390 .nil .nil)) (.node s3o198 (.node (s5o326 P) .nil .nil) (.node s6o454 .nil .nil))) (.node (s1o102 P) (.node s3o166 (.node s4o294 .nil .nil) (.node s6o422 .nil .nil)) (.node s4o230 (.node (s5o358 P) .nil .nil) (.node s7o486 .nil .nil)))) (.node (s0o54 P) (.node s1o86 (.node (s2o150 P) (.node s4o278 (.node s7o534 .nil .nil) .nil) (.node s6o406 .nil .nil)) (.node s3o214 (.node s5o342 .nil .nil) (.node s7o470 .nil .nil))) (.node s2o118 (.node s3o182 (.node s5o310 .nil .nil) (.node s6o438 .nil .nil)) (.node s4o246 (.node s5o374 .nil .nil) (.node s7o502 .nil .nil))))) (.node (s0o30 P) (.node s0o46 (.node (s1o78 P) (.node s2o142 (.node s4o270 (.node s7o526 .nil .nil) .nil) (.node s6o398 .nil .nil)) (.node (s3o206 P) (.node s5o334 .nil .nil) (.node s7o462 .nil .nil))) (.node s1o110 (.node (s3o174 P) (.node s4o302 .nil .nil) (.node s6o430 .nil .nil)) (.node s4o238 (.node s5o366 .nil .nil) (.node s7o494 .nil .nil)))) (.node s0o62 (.node s1o94 (.node s2o158 (.node s4o286 .nil .nil) (.node s6o414 .nil .nil)) (.node s3o222 (.node s5o350 .nil .nil) (.node (s7o478 P) .nil .nil))) (.node (s2o126 P) (.node s3o190 (.node s5o318 .nil .nil) (.node s6o446 .nil .nil)) (.node s4o254 (.node s6o382 .nil .nil) (.node s7o510 .nil .nil)))))))))
def f : LH.St := ⟨fT, 540, #[], ⟨0, 0, 0, 0⟩, 886⟩
abbrev P : Program := R.prog
def y : LH.Says P := ⟨(@PySem.Life.mk (@List.nil @Nat) (@List.nil @Nat) (@List.nil @Nat) (@OfNat.ofNat @Nat 0 (@instOfNatNat 0)) (@List.nil (@Prod @Nat @Nat)) (@List.nil @Nat) @Bool.false (@List.toArray @Nat (@List.nil @Nat)) (@List.nil @Nat) (@OfNat.ofNat @Nat 0 (@instOfNatNat 0)) @Bool.false @Bool.false @Bool.false (@OfNat.ofNat @Int 0 (@instOfNat 0)) (@List.cons @Int (@OfNat.ofNat @Int 2000 (@instOfNat 2000)) (@List.cons @Int (@OfNat.ofNat @Int 10 (@instOfNat 10)) (@List.cons @Int (@OfNat.ofNat @Int 10 (@instOfNat 10)) (@List.nil @Int)))) @Bool.false (@OfNat.ofNat @Nat 0 (@instOfNatNat 0)) @Bool.true (@List.nil @Nat) (@List.nil @Nat) (@OfNat.ofNat @Nat 0 (@instOfNatNat 0)) @Bool.false), (some (.ref 6)), { scope := P.main.scope, locals := mainNs, globals := mainNs, cells := [], code := (.ref 13), frame := some 14 }, ⟨0, 0, 0, 0⟩, 40000, z, 12, a, ⟨0, 0, 0, 0⟩, 1, b, ⟨0, 0, 0, 0⟩⟩
theorem hopen : y.Open := fun w => by kernel_rfl
theorem hsize : y.Size := fun w => by kernel_rfl
theorem hpre : y.Pre := fun w os => by kernel_rfl
theorem hblock : y.Block := fun w os => by kernel_rfl
def gl0 : List Stmt := ((behindTheImports P).drop 0).take 5
theorem gp0 : y.Piece 835 b ⟨0, 0, 0, 0⟩ gl0 s0 ⟨8, 0, 9, 8⟩ := fun w os => by kernel_rfl
def gl1 : List Stmt := ((behindTheImports P).drop 5).take 4
theorem gp1 : y.Piece 853 s0 ⟨8, 0, 9, 8⟩ gl1 s1 ⟨16, 0, 17, 8⟩ := fun w os => by kernel_rfl
def gl2 : List Stmt := ((behindTheImports P).drop 9).take 4
theorem gp2 : y.Piece 853 s1 ⟨16, 0, 17, 8⟩ gl2 s2 ⟨24, 0, 25, 8⟩ := fun w os => by kernel_rfl
def gl3 : List Stmt := ((behindTheImports P).drop 13).take 4
theorem gp3 : y.Piece 949 s2 ⟨24, 0, 25, 8⟩ gl3 s3 ⟨36, 0, 39, 26⟩ := fun w os => by kernel_rfl
def gl4 : List Stmt := ((behindTheImports P).drop 17).take 4
theorem gp4 : y.Piece 981 s3 ⟨36, 0, 39, 26⟩ gl4 s4 ⟨52, 0, 55, 26⟩ := fun w os => by kernel_rfl
def gl5 : List Stmt := ((behindTheImports P).drop 21).take 4
theorem gp5 : y.Piece 981 s4 ⟨52, 0, 55, 26⟩ gl5 s5 ⟨68, 0, 71, 26⟩ := fun w os => by kernel_rfl
def gl6 : List Stmt := ((behindTheImports P).drop 25).take 4
theorem gp6 : y.Piece 981 s5 ⟨68, 0, 71, 26⟩ gl6 s6 ⟨84, 0, 87, 26⟩ := fun w os => by kernel_rfl
def gl7 : List Stmt := ((behindTheImports P).drop 29).take 10
theorem gp7 : y.Piece 710 s6 ⟨84, 0, 87, 26⟩ gl7 s7 ⟨132, 0, 150, 23⟩ := fun w os => by kernel_rfl
theorem hfin : y.Fin 2 s7 ⟨132, 0, 150, 23⟩ f := fun w os => by kernel_rfl
theorem hall : y.Rest (835 + (853 + (853 + (949 + (981 + (981 + (981 + (710 + 2)))))))) b ⟨0, 0, 0, 0⟩ (gl0 ++ (gl1 ++ (gl2 ++ (gl3 ++ (gl4 ++ (gl5 ++ (gl6 ++ (gl7 ++ [])))))))) f := piece_rest gp0 (piece_rest gp1 (piece_rest gp2 (piece_rest gp3 (piece_rest gp4 (piece_rest gp5 (piece_rest gp6 (piece_rest gp7 (fin_rest hfin))))))))
theorem hbody : behindTheImports P = (gl0 ++ (gl1 ++ (gl2 ++ (gl3 ++ (gl4 ++ (gl5 ++ (gl6 ++ (gl7 ++ [])))))))) := by kernel_rfl
theorem hrest : y.Rest (835 + (853 + (853 + (949 + (981 + (981 + (981 + (710 + 2)))))))) b ⟨0, 0, 0, 0⟩ (behindTheImports P) f := hbody ▸ hall
theorem looks (w : World) (os : OsState) : (looksF P (absHeap (y.S0.tr w.params) y.S0.n y.life) (f.at y.life w os).abs, seenQ (view P [38]) lo (importedModules P.main.body) (fun s => xlAt (view P [38]) [] s && recOk R.toRowW.records s) (f.at y.life w os).abs, ob (f.at y.life w os)) = (true, openGood (view P [38]) lo, hk.val w) := by kernel_rfl
end H
end K01

set_option Elab.async false
set_option linter.all false
set_option maxRecDepth 100000
set_option maxHeartbeats 1000000
/-! the readings, step by step -/
namespace L3
open PySem L2
section
variable {K : PySem.W.Frag} {δ : List S} {Q : D → List S → Prop} {QL : List D → List S → Prop} {QA : List A → List S → Prop} {QB : Bool → List S → Prop} {Y : Er → List S → Prop} {E : DE} {a b u w : Wt} {ta tb : Wb} {as : Wa} {l : Wl} {s1 s2 : Ws} {i j : Nat} {d : D} {C : Addr} {m : Str} {f : Fn} {dd : List D}
theorem flag_ol {b k : Bool} {xs : List D} : (S.ol k xs).flag b = .ol b xs := rfl
theorem inp_ol {k : Bool} {xs : List D} : (S.ol k xs).inp = k := rfl
theorem rvD_d : rvD (.d d) = d := rfl
theorem rvD_l {xs : List D} : rvD (.l xs) = .lst xs := rfl
theorem r_var (h : δ[i]? = some (.v d)) (q : Q d δ) : wVar i δ Q Y := ⟨d, h, q⟩
theorem r_c (q : Q d δ) : wC d δ Q Y := q
theorem r_op {o : O2} (h : a δ (fun d δ1 => b δ1 (fun e δ2 => o d e fun z => Q z δ2) Y) Y) : wOp o a b δ Q Y := h
theorem r_un {o : O1} (h : a δ (fun d δ1 => o d fun z => Q z δ1) Y) : wUn o a δ Q Y := h
theorem r_tst (h : u δ (fun d δ1 => ∃ k, d = .bl k ∧ QB k δ1) Y) : wTst u δ QB Y := h
theorem r_tru (h : u δ (fun d δ1 => ∃ k, truD d = some k ∧ QB k δ1) Y) : wTru u δ QB Y := h
theorem r_andT (h : ta δ (fun c δ1 => if c = true then tb δ1 QB Y else QB false δ1) Y) : wAndT ta tb δ QB Y := h
theorem r_orT (h : ta δ (fun c δ1 => if c = true then QB true δ1 else tb δ1 QB Y) Y) : wOrT ta tb δ QB Y := h
theorem r_notT (h : ta δ (fun c δ1 => QB (!c) δ1) Y) : wNotT ta δ QB Y := h
theorem r_and (h : u δ (fun d δ1 => ∃ c, d = .bl c ∧ if c = true then w δ1 Q Y else Q (.bl false) δ1) Y) : wAnd u w δ Q Y := h
theorem r_or (h : u δ (fun d δ1 => ∃ c, d = .bl c ∧ if c = true then Q (.bl true) δ1 else w δ1 Q Y) Y) : wOr u w δ Q Y := h
theorem r_not (h : u δ (fun d δ1 => ∃ c, d = .bl c ∧ Q (.bl (!c)) δ1) Y) : wNot u δ Q Y := h
theorem r_if (h : ta δ (fun c δ1 => if c = true then u δ1 Q Y else w δ1 Q Y) Y) : wIf ta u w δ Q Y := h
theorem r_nil (q : QA [] δ) : wNil δ QA Y := q
theorem r_cons (h : u δ (fun d δ1 => as δ1 (fun xs δ2 => QA (.d d :: xs) δ2) Y) Y) : wCons u as δ QA Y := h
theorem r_tup (h : as δ (fun as δ1 => ∃ ds, trees as = some ds ∧ ds.length ≤ 1000 ∧ Q (.tup ds) δ1) Y) : wTup as δ Q Y := h
theorem r_lst (h : as δ (fun as δ1 => ∃ ds, trees as = some ds ∧ ds.length ≤ 1000 ∧ Q (.lst ds) δ1) Y) : wLst as δ Q Y := h
theorem r_lstO (h : as δ (fun as δ1 => ∃ ds, trees as = some ds ∧ ds.length ≤ 1000 ∧ QL ds δ1) Y) : wLstO as δ QL Y := h
theorem r_fz (h : l δ (fun xs δ1 => Q (.lst xs) δ1) Y) : wFz l δ Q Y := h
theorem r_call (h : as δ (fun as δ1 => ∃ ds, trees as = some ds ∧ f ((ds ++ dd).map S.v) (fun r _ => Q (rvD r) δ1) (fun er _ => Y er δ1)) Y) : wCall f dd as δ Q Y := h
theorem r_callL (h : as δ (fun as δ1 => ∃ ds, trees as = some ds ∧ f ((ds ++ dd).map S.v) (fun r _ => ∃ xs, r = .l xs ∧ QL xs δ1) (fun er _ => Y er δ1)) Y) : wCallL f dd as δ QL Y := h
theorem r_callW {h : Perm} {n : Nat} (q : as δ (fun as δ1 => ∃ ds, trees as = some ds ∧ ds.length = n ∧ f ((h ds).map S.v) (fun r _ => Q (rvD r) δ1) (fun _ _ => False)) Y) : wCallW f h n as δ Q Y := q
theorem r_make (h : as δ (fun as δ1 => ∃ ds, trees as = some ds ∧ f (.oo true C [] [] :: (ds ++ dd).map S.v) (fun r fin => ∃ ns xs, fin[0]? = some (.oo true C ns xs) ∧ Q (.obj C ns xs) δ1) (fun er _ => Y er δ1)) Y) : wMake C f dd as δ Q Y := h
theorem r_makeW {h : Perm} {n : Nat} (q : as δ (fun as δ1 => ∃ ds, trees as = some ds ∧ ds.length = n ∧ f (.oo true C [] [] :: (h ds).map S.v) (fun r fin => ∃ ns xs, fin[0]? = some (.oo true C ns xs) ∧ Q (.obj C ns xs) δ1) (fun _ _ => False)) Y) : wMakeW C f h n as δ Q Y := q
theorem r_meth (h : w δ (fun d δ1 => ∃ ns xs, d = .obj C ns xs ∧ m ∉ ns ∧ as δ1 (fun as δ2 => ∃ ds, trees as = some ds ∧ f ((d :: (ds ++ dd)).map S.v) (fun r _ => Q (rvD r) δ2) (fun er _ => Y er δ2)) Y) Y) : wMeth C m f dd w as δ Q Y := h
theorem r_methW {h : Perm} {n : Nat} (q : w δ (fun d δ1 => ∃ ns xs, d = .obj C ns xs ∧ m ∉ ns ∧ as δ1 (fun as δ2 => ∃ ds, trees as = some ds ∧ ds.length = n ∧ f ((d :: h ds).map S.v) (fun r _ => Q (rvD r) δ2) (fun _ _ => False)) Y) Y) : wMethW C m f h n w as δ Q Y := q
theorem r_prop (h : w δ (fun d δ1 => ∃ ns xs, d = .obj C ns xs ∧ f [.v d] (fun r _ => Q (rvD r) δ1) (fun _ _ => False)) Y) : wProp C f w δ Q Y := h
theorem r_fld (h : w δ (fun d δ1 => ∃ ns xs z, d = .obj C ns xs ∧ (ns.zip xs).lookup m = some z ∧ Q z δ1) Y) : wFld C m w δ Q Y := h
theorem r_cb {r : OC} (h : as δ (fun as δ1 => ∃ ds, trees as = some ds ∧ r ds fun z => Q z δ1) Y) : wCB r as δ Q Y := h
theorem r_ixO (h : (∃ s : S, δ[i]? = some s ∧ s.owned = true) ∧ w δ (fun e δ1 => ∃ k xs j z, e = .int j ∧ δ1[i]? = some (.ol k xs) ∧ atI xs j = some z ∧ Q z δ1) Y) : wIxO i w δ Q Y := h
theorem r_callB (h : (∃ s : S, δ[j]? = some s ∧ s.owned = true) ∧ as δ (fun as δ1 => ∃ ds s, trees as = some ds ∧ δ1[j]? = some s ∧ s.owned = true ∧ f (s.flag true :: (ds ++ dd).map S.v) (fun r fin => ∃ s' : S, fin[0]? = some s' ∧ s'.owned = true ∧ s'.inp = true ∧ Q (rvD r) (δ1.set j (s'.flag s.inp))) (fun _ _ => False)) Y) : wCallB j f dd as δ Q Y := h
theorem r_seq (h : s1 δ { E with nx := fun δ1 => s2 δ1 E }) : wSeq s1 s2 δ E := h
theorem r_nx (h : E.nx δ) : wNx δ E := h
theorem r_set (h : u δ (fun d δ1 => E.nx (δ1.set i (.v d))) E.xx) : wSet i u δ E := h
theorem r_setL (h : l δ (fun xs δ1 => E.nx (δ1.set i (.ol false xs))) E.xx) : wSetL i l δ E := h
theorem r_expr (h : u δ (fun _ δ1 => E.nx δ1) E.xx) : wExpr u δ E := h
theorem r_ret (h : u δ (fun d δ1 => E.rt (.d d) δ1) E.xx) : wRet u δ E := h
theorem r_retL (h : l δ (fun xs δ1 => E.rt (.l xs) δ1) E.xx) : wRetL l δ E := h
theorem r_ifS (h : ta δ (fun c δ1 => if c = true then s1 δ1 E else s2 δ1 E) E.xx) : wIfS ta s1 s2 δ E := h
theorem r_par (h : as δ (fun as δ1 => ∃ d d', trees as = some [d, d'] ∧ E.nx ((δ1.set i (.v d)).set j (.v d'))) E.xx) : wPar i j as δ E := h
theorem r_stF (h : w δ (fun d δ1 => ∃ k ns xs, δ1[i]? = some (.oo k C ns xs) ∧ ns.length < 1000 ∧ E.nx (δ1.set i (.oo k C (putD m d ns xs).1 (putD m d ns xs).2))) E.xx) : wStF i C m w δ E := h
theorem r_stO (h : u δ (fun d δ1 => (∃ s : S, δ1[i]? = some s ∧ s.owned = true) ∧ w δ1 (fun e δ2 => ∃ k xs j l, e = .int j ∧ δ2[i]? = some (.ol k xs) ∧ ixN xs.length j = some l ∧ E.nx (δ2.set i (.ol k (xs.set l d)))) E.xx) E.xx) : wStO i u w δ E := h
theorem r_for {wi : Wi} {g : Wg} (h : wi δ (fun items δ1 => loopD g s1 E items δ1) E.xx) : wFor wi g s1 δ E := h
theorem r_oI {C : Int → Int → Prop} {g : Int → Int → D} {x y : Int} {P : D → Prop} (c : C x y) (q : P (g x y)) : oI C g (.int x) (.int y) P := ⟨x, y, rfl, rfl, c, q⟩
theorem r_oIC {C : Int → Int → Prop} {g : Int → Int → D} {x y : Int} {P : D → Prop} (q : P (g x y)) (c : C x y) : oI C g (.int x) (.int y) P := ⟨x, y, rfl, rfl, c, q⟩
theorem r_oIT {g : Int → Int → D} {x y : Int} {P : D → Prop} (q : P (g x y)) : oI CT g (.int x) (.int y) P := ⟨x, y, rfl, rfl, True.intro, q⟩
theorem r_ite {p : Prop} [Decidable p] {A B : Prop} (h1 : p → A) (h2 : ¬ p → B) : if decide p = true then A else B := by
  by_cases c : p
  · rw [if_pos (decide_eq_true c)]; exact h1 c
  · rw [if_neg (by rw [decide_eq_false c]; exact Bool.false_ne_true)]; exact h2 c
theorem r_iteN {p : Prop} [Decidable p] {A B : Prop} (h1 : ¬ p → A) (h2 : p → B) : if (!decide p) = true then A else B := by
  by_cases c : p
  · rw [decide_eq_true c, if_neg (by simp)]; exact h2 c
  · rw [decide_eq_false c, if_pos (by simp)]; exact h1 c
theorem r_rng1 {QI : List D → List S → Prop} (h : as δ (fun as δ1 => ∃ j, trees as = some [.int j] ∧ -(2 ^ 62) ≤ j ∧ j < 2 ^ 62 ∧ QI (rangeD 0 j.toNat) δ1) Y) : wRng1 as δ QI Y := h
theorem r_iteS {p : Prop} [Decidable p] {A B : Prop} (h : ¬ p → B → A) (q : B) : if (!decide p) = true then A else B := r_iteN (fun c => h c q) fun _ => q
theorem r_iteP {A B : Prop} [Decidable True] (h : A) : if True then A else B := by rw [if_pos trivial]; exact h
theorem r_iteQ {A B : Prop} [Decidable False] (h : B) : if False then A else B := by rw [if_neg id]; exact h
theorem r_iteT {A B : Prop} (h : A) : if true = true then A else B := by rw [if_pos rfl]; exact h
theorem r_iteF {A B : Prop} (h : B) : if false = true then A else B := by rw [if_neg Bool.false_ne_true]; exact h
theorem r_fn {n m : Nat} {ws : Ws} {xs : List S} {R : Rv → List S → Prop} (hn : xs.length = n) (h : ws (xs ++ List.replicate m S.no) { nx := fun δ => R (.d .non) δ, rt := R, bk := fun _ => False, ct := fun _ => False, xx := Y }) : fnOf n m ws xs R Y := ⟨hn, h⟩
theorem r_init {n m : Nat} {ws : Ws} {xs : List S} {R : Rv → List S → Prop} (hn : xs.length = n) (h : ws (xs ++ List.replicate m S.no) { nx := fun δ => R (.d .non) δ, rt := fun r δ => r = .d .non ∧ R r δ, bk := fun _ => False, ct := fun _ => False, xx := Y }) : fnInit n m ws xs R Y := by
  refine ⟨hn, ?_⟩
  have e : (fun δ : List S => (Rv.d D.non = Rv.d D.non ∧ R (.d .non) δ)) = fun δ => R (.d .non) δ := by
    funext δ
    exact propext ⟨fun z => z.2, fun z => ⟨rfl, z⟩⟩
  rw [e]
  exact h
theorem r_eqI {x y : Int} {P : D → Prop} (q : P (.bl (decide (x = y)))) : oEqD (.int x) (.int y) P := ⟨.int x, .int y, rfl, rfl, rfl, rfl, by
  have e : PyData.eqv (.int x) (.int y) = decide (x = y) := by
    first | rfl | (unfold PyData.eqv; simp) | simp [PyData.eqv]
  rw [e]; exact q⟩
theorem r_abs {x : Int} {P : D → Prop} (q : P (.int (if x < 0 then -x else x))) : zAbs [.int x] P := ⟨x, rfl, q⟩
theorem r_int {x : Int} {P : D → Prop} (q : P (.int x)) : zInt [.int x] P := .inl ⟨x, rfl, q⟩
theorem r_max {x y : Int} {P : D → Prop} (q : P (.int (if y > x then y else x))) : zMax [.int x, .int y] P := ⟨x, y, rfl, q⟩
theorem r_min {x y : Int} {P : D → Prop} (q : P (.int (if y < x then y else x))) : zMin [.int x, .int y] P := ⟨x, y, rfl, q⟩
theorem r_gcd {x y : Int} {P : D → Prop} (q : P (.int ((Nat.gcd x.natAbs y.natAbs : Nat) : Int))) : zGcd [.int x, .int y] P := ⟨x, y, rfl, q⟩
theorem r_len {d : D} {xs : List D} {P : D → Prop} (h : itemsOf d = some xs) (q : P (.int xs.length)) : zLen [d] P := ⟨d, xs, rfl, h, q⟩
theorem r_repr {d : D} {x : Str} {P : D → Prop} (h : reprD d = some x) (q : P (.str x)) : zRepr [d] P := ⟨d, x, rfl, h, q⟩
theorem r_isi {d c : D} {t u : Value} {r : Bool} {P : D → Prop} (h1 : clsU c = some u) (h2 : tyD d = some t) (h3 : tyOk K d) (h4 : PySem.W.kitOne K t u = some r) (q : P (.bl r)) : zIsi K [d, c] P := ⟨d, c, t, u, r, rfl, h1, h2, h3, h4, q⟩
theorem r_ix {d e z : D} {xs : List D} {n : Int} {P : D → Prop} (h1 : itemsOf d = some xs) (h2 : e = .int n) (h3 : atI xs n = some z) (q : P z) : oIx d e P := ⟨xs, n, z, h1, h2, h3, q⟩
theorem r_neg {x : Int} {P : D → Prop} (q : P (.int (-x))) : (fun (d : D) (P : D → Prop) => ∃ i, d = .int i ∧ P (.int (-i))) (.int x) P := ⟨x, rfl, q⟩
theorem r_raise0 {E : DE} {C : Addr} {δ : List S} (q : E.xx (C, []) δ) : wRaise0 C δ E := q
theorem r_raise1 {E : DE} {C : Addr} {δ : List S} {fld : Str} {u : Wt} (q : u δ (fun d δ1 => E.xx (C, [(fld, d)]) δ1) E.xx) : wRaise1 C fld u δ E := q
theorem r_fldO {i : Nat} {C : Addr} {m : Str} {k : Bool} {ns : List Str} {xs : List D} {z : D} {δ : List S} {Q : D → List S → Prop} {Y : Er → List S → Prop} (h1 : δ[i]? = some (.oo k C ns xs)) (h2 : (ns.zip xs).lookup m = some z) (q : Q z δ) : wFldO i C m δ Q Y := ⟨k, ns, xs, z, h1, h2, q⟩
end
end L3
local macro_rules | `(tactic| walk_at "l3 step") => `(tactic| first
  | ((with_reducible apply L3.r_var); rfl) | with_reducible refine L3.r_c ?_ | with_reducible refine L3.r_op ?_ | with_reducible refine L3.r_un ?_ | with_reducible refine L3.r_tst ?_ | with_reducible refine L3.r_tru ?_ | with_reducible refine L3.r_andT ?_ | with_reducible refine L3.r_orT ?_ | with_reducible refine L3.r_notT ?_
  | with_reducible refine L3.r_and ?_ | with_reducible refine L3.r_or ?_ | with_reducible refine L3.r_not ?_ | with_reducible refine L3.r_if ?_
  | with_reducible refine L3.r_nil ?_ | with_reducible refine L3.r_cons ?_ | with_reducible refine L3.r_tup ?_ | with_reducible refine L3.r_lst ?_ | with_reducible refine L3.r_lstO ?_ | with_reducible refine L3.r_fz ?_ | with_reducible refine L3.r_call ?_ | with_reducible refine L3.r_callL ?_ | with_reducible refine L3.r_callW ?_
  | with_reducible refine L3.r_make ?_ | with_reducible refine L3.r_makeW ?_ | with_reducible refine L3.r_meth ?_ | with_reducible refine L3.r_methW ?_ | with_reducible refine L3.r_prop ?_ | with_reducible refine L3.r_fld ?_ | with_reducible refine L3.r_cb ?_
  | with_reducible refine L3.r_seq ?_ | with_reducible refine L3.r_nx ?_ | with_reducible refine L3.r_set ?_ | with_reducible refine L3.r_setL ?_ | with_reducible refine L3.r_expr ?_ | with_reducible refine L3.r_ret ?_ | with_reducible refine L3.r_retL ?_ | with_reducible refine L3.r_ifS ?_ | with_reducible refine L3.r_par ?_
  | with_reducible refine L3.r_stF ?_ | with_reducible refine L3.r_stO ?_ | with_reducible refine L3.r_for ?_ | with_reducible refine L3.r_rng1 ?_ | with_reducible refine L3.r_oIT ?_ | with_reducible refine L3.r_oIC ?_ ?_ | with_reducible refine L3.r_iteT ?_ | with_reducible refine L3.r_iteF ?_ | with_reducible refine L3.r_iteP ?_ | with_reducible refine L3.r_iteQ ?_ | with_reducible refine L3.r_eqI ?_
  | with_reducible refine L3.r_abs ?_ | with_reducible refine L3.r_int ?_ | with_reducible refine L3.r_max ?_ | with_reducible refine L3.r_min ?_ | with_reducible refine L3.r_gcd ?_ | with_reducible refine L3.r_raise0 ?_ | with_reducible refine L3.r_raise1 ?_
  | ((with_reducible apply L3.r_len); rfl) | ((with_reducible apply L3.r_ix); rfl; rfl; rfl) | ((with_reducible apply L3.r_fldO); rfl; rfl)
  | ((with_reducible refine L3.r_ixO (And.intro ?_ ?_)); exact ⟨_, rfl, rfl⟩) | ((with_reducible refine L3.r_callB (And.intro ?_ ?_)); exact ⟨_, rfl, rfl⟩)
  | ((with_reducible apply Exists.intro); (with_reducible apply And.intro); rfl)
  | ((with_reducible apply Exists.intro); (with_reducible apply Exists.intro); (with_reducible apply And.intro); rfl)
  | ((with_reducible apply Exists.intro); (with_reducible apply Exists.intro); (with_reducible apply Exists.intro); (with_reducible apply And.intro); rfl)
  | ((with_reducible apply Exists.intro); (with_reducible apply Exists.intro); (with_reducible apply Exists.intro); (with_reducible apply Exists.intro); (with_reducible apply And.intro); rfl)
  | ((with_reducible refine And.intro ?_ ?_); first | rfl | decide | exact Nat.le_of_ble_eq_true rfl | exact ⟨_, rfl, rfl⟩)
  | (with_reducible simp only [List.set_cons_zero, List.set_cons_succ, List.replicate_succ, List.replicate_zero, List.cons_append, List.nil_append, List.append_nil, List.map_cons, List.map_nil, Bool.not_true, Bool.not_false, L3.rvD_d, L3.rvD_l, L3.flag_ol, L3.inp_ol, decide_true, decide_false])
  | dsimp only)

set_option Elab.async false
set_option linter.all false
set_option maxRecDepth 100000
set_option maxHeartbeats 1000000
/-! lists that grow; sums of lists -/
namespace L3
open PySem L2
section
variable {X : Cx} {K : PySem.W.Frag} {W : WX} {e a b c o : Expr} {es : List Expr} {t : TE} {pos : Pos} {m x : Str} {p apos cpos : Pos}
/-- x.append(e), slot i's own list -/
def wApp (i : Nat) (u : Wa) : Wt := fun δ Q Y => (∃ k xs, δ[i]? = some (.ol k xs)) ∧ u δ (fun as δ1 => ∃ d k xs, trees as = some [d] ∧ δ1[i]? = some (.ol k xs) ∧ xs.length < 1000 ∧ Q .non (δ1.set i (.ol k (xs ++ [d])))) Y
theorem x_app (i : Nat) {u : Wa} (ha : PA X [e] (TrA X.K W u)) (hN : X.N[i]? = some x := by rfl) (hv : Vis X.env.scope x := by first | exact Or.inl rfl | exact Or.inr (Or.inl rfl) | exact Or.inr (Or.inr rfl)) (hd : (x == ("__debug__" : Str)) = false := by decide)
    (hcd : (x == ("__classdict__" : Str)) = false := by decide)
    (hbase : attributeBase (.Name x p) "append" X.env (eval (.Name x p) X.env) = eval (.Name x p) X.env := by rfl)
    (hfew : ((backTo cpos (starEach [e] X.env)).all (fun x => !x.1) && (backToKw cpos (keywordEach [] X.env)).all (fun x => x.1.isSome)
      && decide ([e].length + ([] : List Keyword).length + (if ([] : List Keyword).isEmpty then 0 else 1) < 30)) = true := by rfl)
    (hline : (apos.endLine == cpos.line) = true := by rfl) (hs : starEach [e] X.env = (false, eval e X.env) :: starEach [] X.env := by rfl) (hplain : (backTo cpos (starEach [] X.env)).any (·.1) = false := by rfl) (hm : MtM X "list.append" rAppend := by exact mt_append) :
    PE X (.Call (.Attribute (.Name x p) "append" apos) [e] [] cpos) (Tr X.K W (wApp i u)) :=
  pe_imp (pe_bm PySem.F.plainAttrs_list PySem.F.slot_list_append PySem.F.type_list_append (r := rAppend) hm (pe_var hN hv hd hcd) ha hbase hfew hline hs hplain) fun σ H Q h => by
    obtain ⟨bb, δ, F, Po, Px, wf, r, ⟨⟨k0, ys, hk0⟩, q⟩, k, kx⟩ := h
    obtain ⟨p, hp, ⟨nF0, vs0, hv0, _⟩, _⟩ := r.own hk0 rfl
    refine ⟨_, hp, .inl ⟨rfl, vs0, .inl (.inl hv0)⟩, ?_⟩
    refine ⟨bb, δ, F, _, _, wf, r, q, fun as δ1 q1 vs1 F1 H1 wf1 s1 r1 ra => ?_, fun er δ' hx => kx er δ' hx⟩
    obtain ⟨d, k1, xs, hds, hi, hl, q2⟩ := q1
    obtain ⟨v, rfl, rv⟩ := reps1 (reps_of ra hds)
    obtain ⟨p2, hp2, ⟨nF, vs, hvs, rr⟩, _⟩ := r1.own hi rfl
    rw [hp] at hp2
    cases hp2
    obtain ⟨w1, w2⟩ := own_upd (s' := .ol k1 (xs ++ [d])) (o' := .lst (vs ++ [v])) wf1 r1 hi rfl rfl rfl hp hvs ⟨nF, _, upd_same, rr.append (Reps.cons rv rfl)⟩
    exact ⟨p, vs, v, rfl, rfl, hvs, by rw [rr.length]; exact small1000 (by omega), k _ _ q2 _ F1 _ w1 s1 w2 rfl⟩
/-- the sum of two lists that are let go -/
def oCatL : O2 := fun d e P => ∃ xs ys, d = .lst xs ∧ e = .lst ys ∧ xs.length + ys.length ≤ 1000 ∧ P (.lst (xs ++ ys))
theorem o_catL : OpR X (binaryOp .Add) (Op2 X.K oCatL) := fun pins s σ H x y u v Q I rx ry h => by
  obtain ⟨F, d, e, P, sF, r1, r2, ⟨xs, ys, rfl, rfl, hl, q⟩, kk⟩ := h
  obtain ⟨a, vs, rfl, h1, rr1⟩ := r1
  obtain ⟨b, ws, rfl, h2, rr2⟩ := r2
  cases (show u = Value.ref a from rx)
  cases (show v = Value.ref b from ry)
  obtain ⟨its, rv, pl, hz⟩ := I.list (Same.seq sF h1)
  obtain ⟨its2, rv2, pl2, hz2⟩ := I.list (Same.seq sF h2)
  obtain ⟨o1, n1, g1, c1, d1, s1⟩ := pl
  obtain ⟨o2, n2, g2, c2, d2, s2⟩ := pl2
  have hsz : its.toArray.size + its2.toArray.size ≤ sizeLine := by
    rw [List.size_toArray, List.size_toArray, ← rv.length, ← rv2.length, rr1.length, rr2.length]; exact line1000 hl
  obtain ⟨oc1, od1, dt1, sl1⟩ := o1
  obtain ⟨oc2, od2, dt2, sl2⟩ := o2
  subst c1 d1 s1 c2 d2 s2
  refine concat_meets ⟨_, g1, rfl⟩ ⟨_, g2, rfl⟩ noFill_list_add seq_list_add PySem.F.slot_list_add PySem.F.entry_list_add (PySem.F.args_list_add_2 _ _) (PyProof.Rows.list_addW a b its.toArray its2.toArray n1 n2 none none sl1 sl2 hsz) ⟨g1, g2, ?_⟩
  have ea : its.toArray ++ its2.toArray = (its ++ its2).toArray := by simp
  rw [ea]
  have ex := Ext.new1 (o := .lst (vs ++ ws)) sF I.fresh
  have rr := rr1.append rr2
  refine ⟨.ref _, _, I.lnew (t' := s.toks) (rv.append rv2) (by rw [rr.length, List.length_append]; exact line1000 hl), rfl, kk _ q _ _ _ ex ⟨_, _, rfl, .inl (.inl upd_same), rr.mono ex.ff⟩⟩
end
end L3

set_option Elab.async false
set_option linter.all false
set_option maxRecDepth 100000
set_option maxHeartbeats 1000000
/-! x in xs, data at any depth -/
namespace L3
open PySem L2
section
variable {X : Cx} {K : PySem.W.Frag}
/-- which of the values is equal to the looked for one, told by places -/
noncomputable def hitV (us : List Value) (ps : List PyData) (p : PyData) (u : Value) : Bool := @decide (∃ (i : Nat) (q : PyData), us[i]? = some u ∧ ps[i]? = some q ∧ PyData.eqv q p = true) (Classical.propDecidable _)
theorem hit_t {us : List Value} {ps : List PyData} {p : PyData} {u : Value} (h : ∃ (i : Nat) (q : PyData), us[i]? = some u ∧ ps[i]? = some q ∧ PyData.eqv q p = true) : hitV us ps p u = true := @decide_eq_true _ (Classical.propDecidable _) h
theorem hit_f {us : List Value} {ps : List PyData} {p : PyData} {u : Value} (h : ¬ ∃ (i : Nat) (q : PyData), us[i]? = some u ∧ ps[i]? = some q ∧ PyData.eqv q p = true) : hitV us ps p u = false := @decide_eq_false _ (Classical.propDecidable _) h
theorem hit_o {us : List Value} {ps : List PyData} {p : PyData} {u : Value} (h : hitV us ps p u = true) : ∃ (i : Nat) (q : PyData), us[i]? = some u ∧ ps[i]? = some q ∧ PyData.eqv q p = true := @of_decide_eq_true _ (Classical.propDecidable _) h
theorem hit_any {us : List Value} {ps : List PyData} {p : PyData} (hl : us.length = ps.length) : us.any (hitV us ps p) = ps.any fun q => PyData.eqv q p := by
  rw [Bool.eq_iff_iff, List.any_eq_true, List.any_eq_true]
  constructor
  · rintro ⟨u, _, h⟩
    obtain ⟨i, q, _, h2, h3⟩ := hit_o h
    exact ⟨q, List.mem_of_getElem? h2, h3⟩
  · rintro ⟨q, hq, h3⟩
    obtain ⟨i, hi⟩ := List.mem_iff_getElem?.mp hq
    have lt : i < us.length := by
      have := (List.getElem?_eq_some_iff.mp hi).1
      omega
    exact ⟨us[i], List.getElem_mem lt, hit_t ⟨i, q, List.getElem?_eq_getElem lt, hi, h3⟩⟩
theorem reads_at {h : Heap} : ∀ {us : List Value} {ps : List PyData} {as : List Addr} {i : Nat} {u : Value} {q : PyData}, ReadsAll h us ps as → us[i]? = some u → ps[i]? = some q → ∃ bs, Reads h u q bs
  | _, _, _, i, u, q, .nil, h1, _ => by cases h1
  | _, _, _, 0, u, q, .cons r _, h1, h2 => by cases h1; cases h2; exact ⟨_, r⟩
  | _, _, _, i + 1, u, q, .cons _ r, h1, h2 => reads_at (i := i) r h1 h2
theorem readsAll_len {h : Heap} : ∀ {us : List Value} {ps : List PyData} {as : List Addr}, ReadsAll h us ps as → us.length = ps.length
  | _, _, _, .nil => rfl
  | _, _, _, .cons _ r => congrArg Nat.succ (readsAll_len r)
def oInD (neg : Bool) : O2 := fun d e P => ∃ p xs ps, toP d = some p ∧ itemsOf e = some xs ∧ toPs xs = some ps ∧ SeqAt.shaped p = true ∧ (∀ q ∈ ps, SeqAt.shaped q = true) ∧ P (.bl (if neg then !(ps.any fun q => PyData.eqv q p) else ps.any fun q => PyData.eqv q p))
theorem in_fact {pins : List (Addr × Obj)} {σ : L2.St} {H : Hp} {s : Shared} {v : Value} {its : List Value} {ps : List PyData} {p : PyData} {as bs : List Addr} (hu : X.A.units + 200 < cLine) (rx : Reads s.heap v p bs) (rs : ReadsAll s.heap its ps as) (sp : SeqAt.shaped p = true) (sps : ∀ q ∈ ps, SeqAt.shaped q = true) :
    ∀ u ∈ its, SeqAt.EqAt X.A.in1 s u v (hitV its ps p u) := by
  have one : ∀ (i : Nat) u q, its[i]? = some u → ps[i]? = some q → SeqAt.EqAt X.A.in1 s u v (PyData.eqv q p) := fun i u q h1 h2 => by
    obtain ⟨cs, rq⟩ := reads_at rs h1 h2
    have sq := sps q (List.mem_of_getElem? h2)
    refine SeqAt.eqAt_reads q p X.A.in1 s u v cs bs rq rx (SeqAt.canLay_of_shaped sq) (SeqAt.canLay_of_shaped sp) ?_
    have d1 := SeqAt.depth_of_shaped sq
    show X.A.units + 1 + min q.depth p.depth < cLine
    omega
  intro u hmem
  obtain ⟨i, hi⟩ := List.mem_iff_getElem?.mp hmem
  have lt : i < ps.length := by
    have := (List.getElem?_eq_some_iff.mp hi).1
    have := readsAll_len rs
    omega
  by_cases h : ∃ (i : Nat) (q : PyData), its[i]? = some u ∧ ps[i]? = some q ∧ PyData.eqv q p = true
  · obtain ⟨j, q, h1, h2, h3⟩ := h
    have e : hitV its ps p u = PyData.eqv q p := by
      rw [h3]; exact hit_t ⟨j, q, h1, h2, h3⟩
    rw [e]; exact one j u q h1 h2
  · have e : hitV its ps p u = PyData.eqv ps[i] p := by
      have f : PyData.eqv ps[i] p = false := by
        cases z : PyData.eqv ps[i] p with
        | false => rfl
        | true => exact absurd ⟨i, ps[i], hi, List.getElem?_eq_getElem lt, z⟩ h
      rw [f]; exact hit_f h
    rw [e]; exact one i u _ hi (List.getElem?_eq_getElem lt)
theorem o_inD (hu : X.A.units + 200 < cLine) : OpR X (compareOp .In) (Op2 X.K (oInD false)) := fun pins s σ H x y u v Q I rx ry h => by
  obtain ⟨F, d, e, P, sF, r1, r2, ⟨p, xs, ps, hp, hx, hps, s1, s2, q⟩, kk⟩ := h
  obtain ⟨bs, rd⟩ := Dp.reads I p x u (dp_of sF r1 hp) rx
  have fin := kk _ q (.bl (ps.any fun q => PyData.eqv q p)) F H (Ext.refl sF) rfl
  cases e with
  | lst ys =>
    cases hx
    obtain ⟨l, vs, rfl, h1, rr⟩ := r2
    cases (show v = Value.ref l from ry)
    obtain ⟨its, rv, pl, hz⟩ := I.list (Same.seq sF h1)
    obtain ⟨as, rs⟩ := Dp.readsAll I ps vs its (dps_of sF rr hps) rv
    refine SeqAt.in_listAt (hitV its ps p) pl.isList (fun w hw => in_fact (X := X) (pins := pins) (σ := σ) (H := H) hu rd rs s1 s2 w (by simpa using hw)) ⟨.bl _, H, I, rfl, ?_⟩
    rw [show its.toArray.any (hitV its ps p) = its.any (hitV its ps p) by simp, hit_any (readsAll_len rs)]
    exact fin
  | tup ys =>
    cases hx
    obtain ⟨l, vs, rfl, h1, rr⟩ := r2
    cases (show v = Value.ref l from ry)
    obtain ⟨its, rv, pl, hz⟩ := I.tuple (seqT sF h1)
    obtain ⟨as, rs⟩ := Dp.readsAll I ps vs its (dps_of sF rr hps) rv
    refine SeqAt.in_tupleAt (hitV its ps p) pl (fun w hw => in_fact (X := X) (pins := pins) (σ := σ) (H := H) hu rd rs s1 s2 w (by simpa using hw)) ⟨.bl _, H, I, rfl, ?_⟩
    rw [show its.toArray.any (hitV its ps p) = its.any (hitV its ps p) by simp, hit_any (readsAll_len rs)]
    exact fin
  | _ => cases hx
theorem o_notInD (hu : X.A.units + 200 < cLine) : OpR X (compareOp .NotIn) (Op2 X.K (oInD true)) := fun pins s σ H x y u v Q I rx ry h => by
  obtain ⟨F, d, e, P, sF, r1, r2, ⟨p, xs, ps, hp, hx, hps, s1, s2, q⟩, kk⟩ := h
  obtain ⟨bs, rd⟩ := Dp.reads I p x u (dp_of sF r1 hp) rx
  have fin := kk _ q (.bl (!(ps.any fun q => PyData.eqv q p))) F H (Ext.refl sF) rfl
  cases e with
  | lst ys =>
    cases hx
    obtain ⟨l, vs, rfl, h1, rr⟩ := r2
    cases (show v = Value.ref l from ry)
    obtain ⟨its, rv, pl, hz⟩ := I.list (Same.seq sF h1)
    obtain ⟨as, rs⟩ := Dp.readsAll I ps vs its (dps_of sF rr hps) rv
    refine SeqAt.notIn_listAt (hitV its ps p) pl.isList (fun w hw => in_fact (X := X) (pins := pins) (σ := σ) (H := H) hu rd rs s1 s2 w (by simpa using hw)) ⟨.bl _, H, I, rfl, ?_⟩
    rw [show its.toArray.any (hitV its ps p) = its.any (hitV its ps p) by simp, hit_any (readsAll_len rs)]
    exact fin
  | tup ys =>
    cases hx
    obtain ⟨l, vs, rfl, h1, rr⟩ := r2
    cases (show v = Value.ref l from ry)
    obtain ⟨its, rv, pl, hz⟩ := I.tuple (seqT sF h1)
    obtain ⟨as, rs⟩ := Dp.readsAll I ps vs its (dps_of sF rr hps) rv
    refine SeqAt.notIn_tupleAt (hitV its ps p) pl (fun w hw => in_fact (X := X) (pins := pins) (σ := σ) (H := H) hu rd rs s1 s2 w (by simpa using hw)) ⟨.bl _, H, I, rfl, ?_⟩
    rw [show its.toArray.any (hitV its ps p) = its.any (hitV its ps p) by simp, hit_any (readsAll_len rs)]
    exact fin
  | _ => cases hx
end
end L3

set_option Elab.async false
set_option linter.all false
set_option maxRecDepth 100000
set_option maxHeartbeats 1000000
/-! an own list looked at: its length, == with data -/
namespace L3
open PySem L2
section
variable {X : Cx} {K : PySem.W.Frag} {W : WX} {a b : Expr} {pos p p2 : Pos} {x : Str}
def wLenO (i : Nat) : Wt := fun δ Q _ => ∃ k xs, δ[i]? = some (.ol k xs) ∧ Q (.int xs.length) δ
theorem x_lenO (i : Nat) (hm : X.mg "len" = none) (hN : X.N[i]? = some x := by rfl) (hv : Vis X.env.scope x := by first | exact Or.inl rfl | exact Or.inr (Or.inl rfl) | exact Or.inr (Or.inr rfl)) (hd : (x == ("__debug__" : Str)) = false := by decide)
    (hcd : (x == ("__classdict__" : Str)) = false := by decide) (hg : Gl X "len" := by rfl)
    (he : starEach [.Name x p2] X.env = (false, eval (.Name x p2) X.env) :: starEach [] X.env := by rfl) (hpl : (backTo pos (starEach [] X.env)).any (·.1) = false := by rfl) :
    PE X (.Call (.Name "len" p) [.Name x p2] [] pos) (Tr X.K W (wLenO i)) :=
  pe_imp (pe_callB call_len_seq hg hm rfl (pa_cons (pe_var hN hv hd hcd) pa_nil he) (by decide) (by decide) he hpl) fun σ H Q h => by
    obtain ⟨bb, δ, F, Po, Px, wf, r, ⟨k0, xs, hi, q⟩, k, kx⟩ := h
    obtain ⟨q0, hq, ⟨nF, vs, hvs, rr⟩, _⟩ := r.own hi rfl
    refine ⟨_, hq, q0, vs, rfl, .inl (.inl (.inl hvs)), ?_⟩
    rw [rr.length]
    exact k _ _ q _ F H wf (Same.refl _) r rfl
def wEqO (neg : Bool) (i : Nat) (w : Wt) : Wt := fun δ Q Y => (∃ k xs, δ[i]? = some (.ol k xs)) ∧ w δ (fun e δ1 => ∃ k xs ps q, δ1[i]? = some (.ol k xs) ∧ toPs xs = some ps ∧ toP e = some q ∧ SeqAt.shaped (.list ps) = true ∧ SeqAt.shaped q = true ∧ Q (.bl (if neg then !PyData.eqv (.list ps) q else PyData.eqv (.list ps) q)) δ1) Y
theorem x_eqO (i : Nat) {w : Wt} (hu : X.A.units + 64 < cLine) (hb : PE X b (Tr X.K W w)) (hm : behindInMarks .Eq b = false) (hN : X.N[i]? = some x := by rfl) (hv : Vis X.env.scope x := by first | exact Or.inl rfl | exact Or.inr (Or.inl rfl) | exact Or.inr (Or.inr rfl)) (hd : (x == ("__debug__" : Str)) = false := by decide)
    (hcd : (x == ("__classdict__" : Str)) = false := by decide) : PE X (.Compare (.Name x p) [.Eq] [b] pos) (Tr X.K W (wEqO false i w)) :=
  pe_imp (pe_cmpR (op_eqD hu) (pe_var hN hv hd hcd) hb hm) fun σ H Q h => by
    obtain ⟨bb, δ, F, Po, Px, wf, r, ⟨⟨k0, ys, hk0⟩, q⟩, k, kx⟩ := h
    obtain ⟨p0, hp, ⟨nF0, vs0, hv0, _⟩, _⟩ := r.own hk0 rfl
    refine ⟨_, hp, bb, δ, F, _, _, wf, r, q, fun e δ1 q1 v F1 H1 wf1 s1 r1 rv => ?_, kx⟩
    obtain ⟨k1, xs, ps, pd, hi, h1, h2, h3, h4, q2⟩ := q1
    obtain ⟨p2, hp2, ⟨nF, vs, hvs, rr⟩, _⟩ := r1.own hi rfl
    rw [hp] at hp2
    cases hp2
    exact ⟨.list ps, pd, .lst (.inl (.inl hvs)) (dps_of wf1.fh rr h1), dp_of wf1.fh rv h2, h3, h4, k _ _ q2 _ F1 H1 wf1 s1 r1 rfl⟩
theorem x_neO (i : Nat) {w : Wt} (hu : X.A.units + 64 < cLine) (hb : PE X b (Tr X.K W w)) (hm : behindInMarks .NotEq b = false) (hN : X.N[i]? = some x := by rfl) (hv : Vis X.env.scope x := by first | exact Or.inl rfl | exact Or.inr (Or.inl rfl) | exact Or.inr (Or.inr rfl)) (hd : (x == ("__debug__" : Str)) = false := by decide)
    (hcd : (x == ("__classdict__" : Str)) = false := by decide) : PE X (.Compare (.Name x p) [.NotEq] [b] pos) (Tr X.K W (wEqO true i w)) :=
  pe_imp (pe_cmpR (op_neD hu) (pe_var hN hv hd hcd) hb hm) fun σ H Q h => by
    obtain ⟨bb, δ, F, Po, Px, wf, r, ⟨⟨k0, ys, hk0⟩, q⟩, k, kx⟩ := h
    obtain ⟨p0, hp, ⟨nF0, vs0, hv0, _⟩, _⟩ := r.own hk0 rfl
    refine ⟨_, hp, bb, δ, F, _, _, wf, r, q, fun e δ1 q1 v F1 H1 wf1 s1 r1 rv => ?_, kx⟩
    obtain ⟨k1, xs, ps, pd, hi, h1, h2, h3, h4, q2⟩ := q1
    obtain ⟨p2, hp2, ⟨nF, vs, hvs, rr⟩, _⟩ := r1.own hi rfl
    rw [hp] at hp2
    cases hp2
    exact ⟨.list ps, pd, .lst (.inl (.inl hvs)) (dps_of wf1.fh rr h1), dp_of wf1.fh rv h2, h3, h4, k _ _ q2 _ F1 H1 wf1 s1 r1 rfl⟩
/-- xs[::-1], let go -/
def wRev (w : Wt) : Wt := fun δ Q Y => w δ (fun d δ1 => ∃ xs, d = .lst xs ∧ Q (.lst xs.reverse) δ1) Y
theorem reps_rev {F : Hp} {ds : List D} {vs : List V} (h : Reps K F ds vs) : Reps K F ds.reverse vs.reverse := by
  induction ds generalizing vs with
  | nil => rw [show vs = [] from h]; rfl
  | cons d ds ih =>
    obtain ⟨v, us, rfl, r1, r2⟩ := h
    rw [List.reverse_cons, List.reverse_cons]
    exact (ih r2).append (Reps.cons r1 rfl)
theorem x_rev {e : Expr} {w : Wt} {k0 : Nat} {p1 p3 : Pos} (h : PE X e (Tr X.K W w)) : PE X (.Subscript e (.Slice none none (some (.UnaryOp .USub (.Constant (.int 1) k0 p1) p2)) p3) pos) (Tr X.K W (wRev w)) := pe_imp (pe_revL h) fun σ H Q h => by
  obtain ⟨b, δ, F, Po, Px, wf, r, q, k, kx⟩ := h
  refine ⟨b, δ, F, _, _, wf, r, q, fun d δ1 q1 x F1 H1 wf1 s1 r1 rx => ?_, kx⟩
  obtain ⟨xs, rfl, q2⟩ := q1
  obtain ⟨a, vs, rfl, h1, rr⟩ := rx
  refine ⟨a, vs, rfl, Same.seq wf1.fh h1, fun p np => ?_⟩
  have ex := Ext.new1 (o := .lst vs.reverse) wf1.fh np
  exact k _ δ1 q2 _ _ _ (wf1.ext ex) (s1.trans ex.ff) (r1.ext ex) ⟨p, _, rfl, .inl (.inl upd_same), (reps_rev rr).mono ex.ff⟩
/-! xs[lo:hi], let go -/
abbrev Wo := List S → (Option Int → List S → Prop) → (Er → List S → Prop) → Prop
def TrO (K : PySem.W.Frag) (W : WX) (w : Wo) : TO := fun σ H Q => ∃ b δ F Po Px, Wf b F H ∧ Rs K b δ σ F H ∧ w δ Po Px ∧
  (∀ c δ', Po c δ' → ∀ F' H', Wf b F' H' → Same F F' → Rs K b δ' σ F' H' → Q c H') ∧ ∀ er δ', Px er δ' → Xp K W b F σ er δ'
theorem po_imp {oe : Option Expr} {t t' : TO} (h : PO X oe t) (i : ∀ σ H Q, t' σ H Q → t σ H Q) : PO X oe t' := ⟨fun pins s σ H Q I q => h.run pins s σ H Q I (i _ _ _ q)⟩
def woNone : Wo := fun δ Q _ => Q none δ
def woSome (w : Wt) : Wo := fun δ Q Y => w δ (fun d δ1 => ∃ i, d = .int i ∧ Q (some i) δ1) Y
theorem xo_none : PO X none (TrO K W woNone) := po_imp po_none fun σ H Q h => by
  obtain ⟨b, δ, F, Po, Px, wf, r, q, k, kx⟩ := h
  exact k _ δ q F H wf (Same.refl _) r
theorem xo_some {e : Expr} {w : Wt} (h : PE X e (Tr K W w)) : PO X (some e) (TrO K W (woSome w)) := po_imp (po_some h) fun σ H Q h => by
  obtain ⟨b, δ, F, Po, Px, wf, r, q, k, kx⟩ := h
  refine ⟨b, δ, F, _, _, wf, r, q, fun d δ1 q1 x F1 H1 wf1 s1 r1 rx => ?_, kx⟩
  obtain ⟨i, rfl, q2⟩ := q1
  exact ⟨i, rx, k _ δ1 q2 F1 H1 wf1 s1 r1⟩
def cutD (xs : List D) (lo hi : Option Int) : List D := (xs.drop (HT.sIx xs.length 0 lo)).take (HT.sIx xs.length xs.length hi - HT.sIx xs.length 0 lo)
theorem reps_drop {F : Hp} : ∀ {ds : List D} {vs : List V} (n : Nat), Reps K F ds vs → Reps K F (ds.drop n) (vs.drop n)
  | _, _, 0, h => h
  | [], _, n + 1, h => by rw [show _ = _ from h]; rfl
  | d :: ds, _, n + 1, h => by
    obtain ⟨v, us, rfl, _, r2⟩ := h
    exact reps_drop n r2
theorem reps_take {F : Hp} : ∀ {ds : List D} {vs : List V} (n : Nat), Reps K F ds vs → Reps K F (ds.take n) (vs.take n)
  | _, _, 0, _ => rfl
  | [], _, n + 1, h => by rw [show _ = _ from h]; rfl
  | d :: ds, _, n + 1, h => by
    obtain ⟨v, us, rfl, r1, r2⟩ := h
    exact Reps.cons r1 (reps_take n r2)
def wSlL (w : Wt) (l u : Wo) : Wt := fun δ Q Y => w δ (fun d δ1 => ∃ xs, d = .lst xs ∧ l δ1 (fun lo δ2 => u δ2 (fun hi δ3 => Q (.lst (cutD xs lo hi)) δ3) Y) Y) Y
theorem x_slL {e : Expr} {lo hi : Option Expr} {w : Wt} {l u : Wo} (h : PE X e (Tr X.K W w)) (h1 : PO X lo (TrO X.K W l)) (h2 : PO X hi (TrO X.K W u)) : PE X (.Subscript e (.Slice lo hi none p2) pos) (Tr X.K W (wSlL w l u)) := pe_imp (L2.pe_slice sl_list h h1 h2) fun σ H Q h => by
  obtain ⟨b, δ, F, Po, Px, wf, r, q, k, kx⟩ := h
  refine ⟨b, δ, F, _, _, wf, r, q, fun d δ1 q1 x F1 H1 wf1 s1 r1 rx => ?_, kx⟩
  obtain ⟨xs, rfl, q2⟩ := q1
  refine ⟨b, δ1, F1, _, _, wf1, r1, q2, fun lo δ2 q3 F2 H2 wf2 s2 r2 => ?_, fun er δ' hx => Xp.back s1 (kx er δ' hx)⟩
  refine ⟨b, δ2, F2, _, _, wf2, r2, q3, fun hi δ3 q4 F3 H3 wf3 s3 r3 => ?_, fun er δ' hx => Xp.back (s1.trans s2) (kx er δ' hx)⟩
  obtain ⟨a, vs, rfl, h1, rr⟩ := rx.mono (s2.trans s3)
  refine ⟨a, vs, rfl, Same.seq wf3.fh h1, fun p np => ?_⟩
  have ex := Ext.new1 (o := .lst (cutV vs lo hi)) wf3.fh np
  have rc : Reps X.K F3 (cutD xs lo hi) (cutV vs lo hi) := by
    unfold cutD cutV
    rw [rr.length]
    exact reps_take _ (reps_drop _ rr)
  exact k _ δ3 q4 _ _ _ (wf3.ext ex) (((s1.trans s2).trans s3).trans ex.ff) (r3.ext ex) ⟨p, _, rfl, .inl (.inl upd_same), rc.mono ex.ff⟩
/-! sums of lists as new lists of one's own -/
def rCat2 (K : PySem.W.Frag) : R2 := fun x y H Q => ∃ a b xs ys, x = .ref a ∧ y = .ref b ∧ SqL K H a xs ∧ SqL K H b ys ∧ xs.length + ys.length ≤ 1000 ∧ ∀ p, H p = none → Q (.ref p) (upd H p (.lst (xs ++ ys)))
theorem op_cat2 : OpR X (binaryOp .Add) (rCat2 X.K) := fun pins s σ H x y u v Q I rx ry h => by
  obtain ⟨a, b, vs, ws, rfl, rfl, h1, h2, hl, q⟩ := h
  cases (show u = Value.ref a from rx)
  cases (show v = Value.ref b from ry)
  obtain ⟨its, rv, pl, hz⟩ := I.list h1
  obtain ⟨its2, rv2, pl2, hz2⟩ := I.list h2
  obtain ⟨o1, n1, g1, c1, d1, s1⟩ := pl
  obtain ⟨o2, n2, g2, c2, d2, s2⟩ := pl2
  have hsz : its.toArray.size + its2.toArray.size ≤ sizeLine := by
    rw [List.size_toArray, List.size_toArray, ← rv.length, ← rv2.length]; exact line1000 hl
  obtain ⟨oc1, od1, dt1, sl1⟩ := o1
  obtain ⟨oc2, od2, dt2, sl2⟩ := o2
  subst c1 d1 s1 c2 d2 s2
  refine concat_meets ⟨_, g1, rfl⟩ ⟨_, g2, rfl⟩ noFill_list_add seq_list_add PySem.F.slot_list_add PySem.F.entry_list_add (PySem.F.args_list_add_2 _ _) (PyProof.Rows.list_addW a b its.toArray its2.toArray n1 n2 none none sl1 sl2 hsz) ⟨g1, g2, ?_⟩
  have ea : its.toArray ++ its2.toArray = (its ++ its2).toArray := by simp
  rw [ea]
  exact ⟨.ref _, _, I.lnew (t' := s.toks) (rv.append rv2) (by rw [List.length_append]; exact line1000 hl), rfl, q _ I.fresh⟩
/-- both let go, the sum one's own -/
def wCat (w u : Wt) : Wl := fun δ Q Y => w δ (fun d δ1 => u δ1 (fun e δ2 => ∃ xs ys, d = .lst xs ∧ e = .lst ys ∧ xs.length + ys.length ≤ 1000 ∧ Q (xs ++ ys) δ2) Y) Y
theorem xl_cat {w u : Wt} (ha : PE X a (Tr X.K W w)) (hb : PE X b (Tr X.K W u)) : PE X (.BinOp a .Add b pos) (TrL X.K W (wCat w u)) := pe_imp (pe_op op_cat2 ha hb) fun σ H Q h => by
  obtain ⟨bb, δ, F, Po, Px, wf, r, q, k, kx⟩ := h
  refine ⟨bb, δ, F, _, _, wf, r, q, fun d δ1 q1 x F1 H1 wf1 s1 r1 rx => ?_, kx⟩
  refine ⟨bb, δ1, F1, _, _, wf1, r1, q1, fun e δ2 q2 y F2 H2 wf2 s2 r2 ry => ?_, fun er δ' hx => Xp.back s1 (kx er δ' hx)⟩
  obtain ⟨xs, ys, rfl, rfl, hl, q3⟩ := q2
  obtain ⟨a1, vs, rfl, h1, rr1⟩ := rx.mono s2
  obtain ⟨b1, ws, rfl, h2, rr2⟩ := ry
  refine ⟨a1, b1, vs, ws, rfl, rfl, Same.seq wf2.fh h1, Same.seq wf2.fh h2, by rw [rr1.length, rr2.length]; exact hl, fun p np => ?_⟩
  obtain ⟨z1, z2, z3⟩ := newAt wf2 r2 np (rr1.append rr2)
  exact k _ δ2 q3 p F2 _ z1 (s1.trans s2) z2 z3
/-- slot i's own list and one that is let go, the sum a new one of one's own -/
def wCatO (i : Nat) (u : Wt) : Wl := fun δ Q Y => (∃ k xs, δ[i]? = some (.ol k xs)) ∧ u δ (fun e δ2 => ∃ k xs ys, δ2[i]? = some (.ol k xs) ∧ e = .lst ys ∧ xs.length + ys.length ≤ 1000 ∧ Q (xs ++ ys) δ2) Y
theorem xl_catO (i : Nat) {u : Wt} (hb : PE X b (Tr X.K W u)) (hN : X.N[i]? = some x := by rfl) (hv : Vis X.env.scope x := by first | exact Or.inl rfl | exact Or.inr (Or.inl rfl) | exact Or.inr (Or.inr rfl)) (hd : (x == ("__debug__" : Str)) = false := by decide)
    (hcd : (x == ("__classdict__" : Str)) = false := by decide) : PE X (.BinOp (.Name x p) .Add b pos) (TrL X.K W (wCatO i u)) := pe_imp (pe_op op_cat2 (pe_var hN hv hd hcd) hb) fun σ H Q h => by
  obtain ⟨bb, δ, F, Po, Px, wf, r, ⟨⟨k0, zs, hk0⟩, q⟩, k, kx⟩ := h
  obtain ⟨p0, hp, ⟨nF0, vs0, hv0, _⟩, _⟩ := r.own hk0 rfl
  refine ⟨_, hp, bb, δ, F, _, _, wf, r, q, fun e δ2 q2 y F2 H2 wf2 s2 r2 ry => ?_, kx⟩
  obtain ⟨k1, xs, ys, hi, rfl, hl, q3⟩ := q2
  obtain ⟨p2, hp2, ⟨nF, vs, hvs, rr1⟩, _⟩ := r2.own hi rfl
  rw [hp] at hp2
  cases hp2
  obtain ⟨b1, ws, rfl, h2, rr2⟩ := ry
  refine ⟨p0, b1, vs, ws, rfl, rfl, .inl (.inl hvs), Same.seq wf2.fh h2, by rw [rr1.length, rr2.length]; exact hl, fun p np => ?_⟩
  obtain ⟨z1, z2, z3⟩ := newAt wf2 r2 np (rr1.append rr2)
  exact k _ δ2 q3 p F2 _ z1 s2 z2 z3
end
end L3

set_option Elab.async false
set_option linter.all false
set_option maxRecDepth 100000
set_option maxHeartbeats 1000000
/-! self.a, self.b, .. = e -/
namespace L3
open PySem L2
section
variable {X : Cx} {K : PySem.W.Frag} {W : WX} {a b e o : Expr} {es : List Expr} {pos p p2 : Pos} {x m : Str} {C : Addr} {tg : Expr}
theorem wp_asgA {M : Model} {A : Around} {E : Value → Shared → Prop} {s : Shared} {env : Env} {u : Value} {Q : Unit → Shared → Prop} (h : wpAny M A (eval o env) (fun ov s2 => wpAny M A (setAttr ov m u) (fun _ => Q ()) E s2) E s) : wpAny M A (assign (.Attribute o m p2) env u) Q E s := by
  rw [assign_Attribute]
  refine wpAny_bind (wpAny_holding (wpAny_mono h (fun ov s2 h2 => ?_) fun _ _ z => z))
  refine wpAny_bind (wpAny_standAt (wpAny_bind (wpAny_holding (wpAny_mono h2 (fun _ s3 q => ?_) fun _ _ z => z))))
  exact wpAny_release q
/-- targets that may change the heap, the slots stand -/
def TrH (K : PySem.W.Frag) (w : Wg) : TG := fun v σ H Q => ∃ b δ F d Po, Wf b F H ∧ Rs K b δ σ F H ∧ Rep K F d v ∧ w d δ Po ∧ ∀ δ', Po δ' → ∀ H', Wf b F H' → Rs K b δ' σ F H' → Q σ H'
def TrHs (K : PySem.W.Frag) (w : Wgs) : TGs := fun vs σ H Q => ∃ b δ F ds Po, Wf b F H ∧ Rs K b δ σ F H ∧ Reps K F ds vs ∧ w ds δ Po ∧ ∀ δ', Po δ' → ∀ H', Wf b F H' → Rs K b δ' σ F H' → Q σ H'
def wgFld (i : Nat) (C : Addr) (m : Str) : Wg := fun d δ Q => ∃ k ns xs, δ[i]? = some (.oo k C ns xs) ∧ ns.length < 1000 ∧ Q (δ.set i (.oo k C (putD m d ns xs).1 (putD m d ns xs).2))
theorem xh_fld (i : Nat) (c : Cls X.K C) (na : NoAttr X.K C m) (hN : X.N[i]? = some x := by rfl) (hv : Vis X.env.scope x := by first | exact Or.inl rfl | exact Or.inr (Or.inl rfl) | exact Or.inr (Or.inr rfl)) (hd : (x == ("__debug__" : Str)) = false := by decide)
    (hcd : (x == ("__classdict__" : Str)) = false := by decide) : PG X (.Attribute (.Name x p) m p2) (TrH X.K (wgFld i C m)) := ⟨fun pins s σ H v u Q I rvu h => by
  obtain ⟨b, δ, F, d, Po, wf, r, rv, ⟨k0, ns, xs, hi, hl, q⟩, k⟩ := h
  obtain ⟨q0, hq, ⟨nF, dx, vs, ha, hlv, rr⟩, _⟩ := r.own hi rfl
  obtain ⟨us, e1, e2, e3⟩ := putD_ok (m := m) rv rr hlv
  refine wp_asgA (thn ((pe_var hN hv hd hcd).run pins s σ H (fun y H1 => y = .ref q0 ∧ H1 = H) I ⟨_, hq, rfl, rfl⟩) ?_)
  rintro ov s2 ⟨y, H1, I2, ry, rfl, rfl⟩
  cases (show ov = Value.ref q0 from ry)
  refine setattr_ok I2 ha c na (by rw [List.length_zip]; exact Nat.lt_of_le_of_lt (Nat.min_le_left _ _) hl) rvu fun s3 I3 => ?_
  obtain ⟨w1, w2⟩ := own_upd (s' := .oo k0 C (putD m d ns xs).1 (putD m d ns xs).2) (o' := .ins C dx (putF m v (ns.zip vs))) wf r hi rfl rfl rfl hq ha ⟨nF, dx, us, by rw [upd_same, e1], e2, e3⟩
  exact ⟨σ, _, I3, k _ q _ w1 w2⟩⟩
theorem xhs_nil : PGs X [] (TrHs K wgNil) := pgs_imp pgs_nil fun v σ H Q h => by
  obtain ⟨b, δ, F, ds, Po, wf, r, rv, ⟨rfl, q⟩, k⟩ := h
  exact ⟨rv, k _ q H wf r⟩
theorem xhs_cons {u : Wg} {w : Wgs} (h1 : PG X e (TrH K u)) (h2 : PGs X es (TrHs K w)) (hs : (assignEach (e :: es) X.env).map (·.2) = assign e X.env :: (assignEach es X.env).map (·.2) := by rfl) : PGs X (e :: es) (TrHs K (wgCons u w)) := pgs_imp (pgs_cons h1 h2 hs) fun v σ H Q h => by
  obtain ⟨b, δ, F, ds, Po, wf, r, rv, ⟨d, rest, rfl, q⟩, k⟩ := h
  obtain ⟨v1, vr, rfl, r1, r2⟩ := rv
  exact ⟨v1, vr, rfl, b, δ, F, d, _, wf, r, r1, q, fun δ1 q1 H1 w1 rs1 => ⟨b, δ1, F, rest, _, w1, rs1, r2, q1, fun δ2 q2 H2 w2 rs2 => k _ q2 H2 w2 rs2⟩⟩
theorem xh_tup {w : Wgs} {n k0 : Nat} (hc : X.calm = true) (h : PGs X es (TrHs X.K w)) (hn : (assignEach es X.env).length = n := by rfl) (hst : (assignEach es X.env).findIdx? (·.1) = none := by rfl) : PG X (.Tuple es k0 pos) (TrH X.K (wgTup n w)) := pg_imp (pg_tup hc h hn hst) fun v σ H Q h => by
  obtain ⟨b, δ, F, d, Po, wf, r, rv, ⟨ds, rfl, hl, q⟩, k⟩ := h
  obtain ⟨a, vs, rfl, h1, h2⟩ := rv
  exact ⟨a, vs, rfl, seqT wf.fh h1, by rw [h2.length]; exact hl, b, δ, F, ds, _, wf, r, h2, q, k⟩
theorem s_asgH {u : Wt} {w : Wg} (he : PE X e (Tr K W u)) (hg : PG X tg (TrH K w)) (hs : swapsWithSole [tg] e pos.line X.env = pure false := by rfl) (hw : swappedStores [tg] e X.env = pure none := by rfl)
    (h1 : (assignEach [tg] X.env).map (·.2) = [assign tg X.env] := by rfl) : PS X (.Assign [tg] e pos) (TrS K W (wAsg u w)) := ps_imp (ps_asg he hg hs hw h1) fun Dn σ H h => by
  obtain ⟨b, δ, F, E, wf, r, q, k1, k2, k3, k4, k5⟩ := h
  exact ⟨b, δ, F, _, _, wf, r, q, fun d δ1 q1 v F1 H1 wf1 s1 r1 rx => ⟨b, δ1, F1, d, _, wf1, r1, rx, q1, fun δ2 q2 H2 w2 r2 => k1 _ q2 σ F1 H2 w2 s1 r2⟩, k5_of k5⟩
/-! tuple(xs), list(xs), any([..]), str(i) -/
def zTuple : OC := fun ds P => ∃ d xs, ds = [d] ∧ itemsOf d = some xs ∧ P (.tup xs)
def zList : OC := fun ds P => ∃ d xs, ds = [d] ∧ itemsOf d = some xs ∧ P (.lst xs)
def zAny : OC := fun ds P => ∃ bs : List Bool, ds = [.lst (bs.map D.bl)] ∧ P (.bl (bs.any id))
def zStr : OC := fun ds P => ∃ i : Int, ds = [.int i] ∧ i.natAbs.log2 < 1920 ∧ P (.str (toString i))
theorem b_tuple : CallR X (.type "tuple") (OpC X.K zTuple) := cr_of call_tuple_of fun vs H Q h => by
  obtain ⟨F, ds, P, sF, rr, ⟨d, xs, rfl, hx, q⟩, kk⟩ := h
  obtain ⟨v, rfl, r1⟩ := reps1 rr
  cases d with
  | lst ys =>
    cases hx
    obtain ⟨l, us, rfl, h1, h2⟩ := r1
    refine ⟨l, us, rfl, .inl ⟨Same.seq sF h1, fun p np => ?_⟩⟩
    have ex := Ext.new1 (o := .tup us) sF np
    exact kk _ q _ _ _ ex ⟨p, us, rfl, .inl (.inl upd_same), h2.mono ex.ff⟩
  | tup ys =>
    cases hx
    obtain ⟨l, us, rfl, h1, h2⟩ := id r1
    exact ⟨l, us, rfl, .inr ⟨seqT sF h1, kk _ q _ F H (Ext.refl sF) r1⟩⟩
  | _ => cases hx
theorem b_list : CallR X (.type "list") (OpC X.K zList) := cr_of call_list_of fun vs H Q h => by
  obtain ⟨F, ds, P, sF, rr, ⟨d, xs, rfl, hx, q⟩, kk⟩ := h
  obtain ⟨v, rfl, r1⟩ := reps1 rr
  cases d with
  | lst ys =>
    cases hx
    obtain ⟨l, us, rfl, h1, h2⟩ := r1
    refine ⟨l, us, rfl, .inl (Same.seq sF h1), fun p np => ?_⟩
    have ex := Ext.new1 (o := .lst us) sF np
    exact kk _ q _ _ _ ex ⟨p, us, rfl, .inl (.inl upd_same), h2.mono ex.ff⟩
  | tup ys =>
    cases hx
    obtain ⟨l, us, rfl, h1, h2⟩ := r1
    refine ⟨l, us, rfl, .inr (seqT sF h1), fun p np => ?_⟩
    have ex := Ext.new1 (o := .lst us) sF np
    exact kk _ q _ _ _ ex ⟨p, us, rfl, .inl (.inl upd_same), h2.mono ex.ff⟩
  | _ => cases hx
theorem reps_bl {F : Hp} : ∀ {bs : List Bool} {vs : List V}, Reps K F (bs.map D.bl) vs → vs = bs.map V.bl
  | [], _, h => h
  | b :: bs, _, h => by
    obtain ⟨v, us, rfl, r1, r2⟩ := h
    rw [show v = .bl b from r1, reps_bl r2]
    rfl
theorem b_any (hc : X.calm = true) : CallR X (.builtin "any") (OpC X.K zAny) := cr_of (cr_any hc) fun vs H Q h => by
  obtain ⟨F, ds, P, sF, rr, ⟨bs, rfl, q⟩, kk⟩ := h
  obtain ⟨v, rfl, r1⟩ := reps1 rr
  obtain ⟨l, us, rfl, h1, h2⟩ := r1
  exact ⟨l, bs, rfl, by rw [← reps_bl h2]; exact Same.seq sF h1, kk _ q _ F H (Ext.refl sF) rfl⟩
theorem b_str : CallR X (.type "str") (OpC X.K zStr) := cr_of call_str_int fun vs H Q h => by
  obtain ⟨F, ds, P, sF, rr, ⟨i, rfl, hi, q⟩, kk⟩ := h
  obtain ⟨v, rfl, r1⟩ := reps1 rr
  exact ⟨i, by rw [show v = _ from r1], hi, kk _ q _ F H (Ext.refl sF) rfl⟩
end
end L3

set_option Elab.async false
set_option linter.all false
set_option maxRecDepth 100000
set_option maxHeartbeats 2000000
/-! an own list walked, tested, shortened, put into, let go; zip -/
namespace L3
open PySem L2
section
variable {X : Cx} {K : PySem.W.Frag} {W : WX} {a b e : Expr} {es : List Expr} {pos p p2 apos cpos : Pos} {x : Str}
theorem Rs.put {bb : B} {δ : List S} {σ : L2.St} {F H : Hp} {i : Nat} {s : S} {x : Option V} (r : Rs K bb δ σ F H) (hx : σ[i]? = some x) (h : ∀ y, x = some y → SlotOk K bb F H i (some y) s) (hn : x = none → s = .no)
    (ho : s.owned = true → ∀ p, x = some (.ref p) → ∀ (j : Nat) (t : S), j ≠ i → δ[j]? = some t → t.owned = true → σ[j]? ≠ some (some (.ref p))) : Rs K bb (δ.set i s) σ F H := by
  have e : σ.set i x = σ := by
    apply List.ext_getElem?
    intro j
    by_cases z : i = j
    · subst z
      have hl : i < List.length σ := (List.getElem?_eq_some_iff.mp hx).1
      rw [List.getElem?_set_self hl, hx]
    · rw [List.getElem?_set_ne z]
  have := r.set (i := i) (s := s) (x := x) h hn ho
  rwa [e] at this
theorem Rs.drop {bb : B} {δ : List S} {σ : L2.St} {F H : Hp} (i : Nat) (r : Rs K bb δ σ F H) : Rs K bb (δ.set i .no) σ F H := by
  by_cases hi : i < δ.length
  · have hl : i < List.length σ := by rw [r.len]; exact hi
    exact r.put (List.getElem?_eq_getElem hl) (fun _ _ => trivial) (fun _ => rfl) (fun o => by cases o)
  · rw [List.set_eq_of_length_le (by omega)]; exact r
theorem lc_coreW {bb : B} {δ1 : List S} {F1 H1 : Hp} {J : It} {items : List D} {Po : List D → List S → Prop} {g : Wg} {t : Wb} {u : Wt} {vs ts : List Nat} {σ : L2.St} {H : Hp} {Q : VK} (hts : ∀ j ∈ ts, j ∈ vs) (wf1 : Wf bb F1 H1) (r1 : Rs K bb δ1 σ F1 H1)
    (hu : ∀ v ∈ vs, ∀ s : S, δ1[v]? = some s → s.owned = false) (q1 : lcD g t u vs δ1 Po items [] (wipeS δ1 vs))
    (it : ∀ F' H', Wf bb F' H' → Same F1 F' → (J.stop items.length H') ∧ ∀ i d, items[i]? = some d → J.go i H' ∧ ∀ y H'', J.yld i H' y H'' → ∃ F'', Ext F' H' F'' H'' ∧ Rep K F'' d y)
    (k : ∀ xs δ', Po xs δ' → ∀ p F' H', Wf bb F' H' → Same F1 F' → Rs K bb δ' σ F' H' → NewAt K bb δ' σ F' H' xs p → Q (.ref p) H') :
    tLc (fun _ _ R => R J H1) (TrG K ts g) (TrT K W0 t) (Tr K W0 u) vs σ H Q := by
  intro Dn nD
  have h0 : bb.H0 Dn = none := wf1.live Dn nD
  have hP : ∀ i, bb.P i ≠ some Dn := fun i z => by
    obtain ⟨o, ho⟩ := wf1.pn i Dn z
    rw [h0] at ho; cases ho
  have nF1 : F1 Dn = none := wf1.fh.free nD
  have hF0 : bb.F0 Dn = none := wf1.ff.free nF1
  have nj := r1.notNew nD
  have njw : ∀ (δ' : List S), δ'.map S.owned = (wipeS δ1 vs).map S.owned → ∀ (j : Nat) (s : S), δ'[j]? = some s → s.owned = true → (L2.wipe σ vs)[j]? ≠ some (some (.ref Dn)) := fun δ' hp j s hj o z => by
    obtain ⟨s', hs', o'⟩ := own_pat hp hj o
    rw [wipeS_get] at hs'
    by_cases hv : j ∈ vs
    · rw [if_pos hv] at hs'
      cases q : δ1[j]? with
      | none => rw [q] at hs'; cases hs'
      | some s2 => rw [q] at hs'; cases hs'; cases o'
    · rw [if_neg hv] at hs'
      rw [wipe_get, if_neg hv] at z
      exact nj j s' hs' o' z
  have hun : ∀ (δ' : List S), δ'.map S.owned = (wipeS δ1 vs).map S.owned → ∀ v ∈ vs, ∀ s : S, δ'[v]? = some s → s.owned = false := fun δ' hp v hv s hs => by
    cases ho : s.owned with
    | false => rfl
    | true =>
      obtain ⟨s', hs', o'⟩ := own_pat hp hs ho
      rw [wipeS_get, if_pos hv] at hs'
      cases q : δ1[v]? with
      | none => rw [q] at hs'; cases hs'
      | some s2 => rw [q] at hs'; cases hs'; cases o'
  have ex0 := Ext.beside (o := .lst []) wf1.fh nD
  refine ⟨fun i m H' => ∃ δ' F' acc accv, Wf bb F' H' ∧ Same F1 F' ∧ Rs K bb δ' (L2.wipe σ vs) F' H' ∧ H' Dn = some (.lst accv) ∧ F' Dn = none ∧ Reps K F' acc accv ∧ i ≤ items.length ∧ m = items.length - i ∧ δ'.map S.owned = (wipeS δ1 vs).map S.owned ∧ lcD g t u vs δ1 Po (items.drop i) acc δ',
    ⟨_, wipeS δ1 vs, F1, [], [], wf1.ext ex0, Same.refl _, (r1.ext ex0).wipe vs, upd_same, nF1, rfl, Nat.zero_le _, rfl, rfl, q1⟩, ?_⟩
  rintro i m H' ⟨δ', F', acc, accv, wf', s', r', hD, nF', racc, hi, rfl, hpat, lp⟩
  obtain ⟨st, go⟩ := it F' H' wf' s'
  by_cases hlt : i < items.length
  · refine .inr ?_
    have hd : items[i]? = some items[i] := List.getElem?_eq_getElem hlt
    obtain ⟨g1, g2⟩ := go i _ hd
    refine ⟨g1, fun H2 => ∃ δ2 F2 acc2 accv2, Wf bb F2 H2 ∧ Same F1 F2 ∧ Rs K bb δ2 (L2.wipe σ vs) F2 H2 ∧ H2 Dn = some (.lst accv2) ∧ F2 Dn = none ∧ Reps K F2 acc2 accv2 ∧ δ2.map S.owned = (wipeS δ1 vs).map S.owned ∧ lcD g t u vs δ1 Po (items.drop (i + 1)) acc2 δ2,
      fun H2 ⟨δ2, F2, acc2, accv2, a1, a2, a3, a4, a5, a6, a7, a8⟩ => ⟨items.length - (i + 1), by omega, δ2, F2, acc2, accv2, a1, a2, a3, a4, a5, a6, hlt, rfl, a7, a8⟩, fun y H'' hy => ?_⟩
    obtain ⟨F'', ex, ry⟩ := g2 y H'' hy
    rw [List.drop_eq_getElem_cons hlt] at lp
    have wfx := wf'.ext ex
    have rx := r'.ext ex
    have hD'' : H'' Dn = some (.lst accv) := ex.hh _ _ hD
    have nF'' : F'' Dn = none := by
      cases z : F'' Dn with
      | none => rfl
      | some v =>
        rcases ex.new Dn v z with z' | z'
        · rw [nF'] at z'; cases z'
        · rw [hD] at z'; cases z'
    have wA := wfx.add h0 nF'' hD''
    have rA := rx.add (o := .lst accv) (njw δ' hpat)
    have sx : Same F1 F'' := s'.trans ex.ff
    refine ⟨bb.add Dn (.lst accv), δ', F'', _, _, wA, rA, ry, lp, fun δ2 q2 σ2 o2 r2 => ?_⟩
    have hw : L2.wipe σ2 vs = L2.wipe σ vs := wipe_only o2 hts
    refine ⟨hw, bb.add Dn (.lst accv), δ2, F'', _, _, wA, r2, q2, fun c δ3 q3 F3 H3 wf3 s3 r3 => ?_, fun er δ' z => z.elim⟩
    cases c with
    | true =>
      rw [if_pos rfl] at q3
      refine iteT ⟨bb.add Dn (.lst accv), δ3, F3, _, _, wf3, r3, q3, fun d δ4 q4 v F4 H4 wf4 s4 r4 rv => ?_, fun er δ' z => z.elim⟩
      obtain ⟨hl, hp4, q4⟩ := q4
      obtain ⟨w5, nF5, hD5⟩ := wf4.sub h0 hP hF0
      refine ⟨accv, hD5, by rw [racc.length]; exact small1000 (by omega), ?_⟩
      have ra4 : Reps K F4 acc accv := racc.mono ((ex.ff.trans s3).trans s4)
      have pat4 : δ4.map S.owned = (wipeS δ1 vs).map S.owned := hp4.trans hpat
      have r4w : Rs K (bb.add Dn (.lst accv)) (wipeS δ4 vs) (L2.wipe σ vs) F4 H4 := by rw [← hw]; exact r4.wipe vs
      have pw : (wipeS δ4 vs).map S.owned = (wipeS δ1 vs).map S.owned := by
        have := pat_wipe (δ := δ') (vs := vs) (δ' := δ4) (hun δ' hpat) hp4
        exact this.trans hpat
      have ne : ∀ {a : Addr} {o : HO}, F4 a = some o → a ≠ Dn := fun {a o} e z => by subst z; rw [nF5] at e; cases e
      refine ⟨wipeS δ4 vs, F4, acc ++ [d], accv ++ [v], ⟨fun a o e => by rw [upd_ne (ne e)]; exact w5.fh a o e, w5.ff, fun a o hn e => ?_, w5.new, fun a e => ?_, w5.pn⟩, (sx.trans s3).trans s4, ?_, upd_same, nF5, ra4.append (Reps.cons rv rfl), pw, q4⟩
      · have ne2 : a ≠ Dn := fun z => by subst z; rw [h0] at e; cases e
        rw [upd_ne ne2]; exact w5.keep a o hn e
      · by_cases z : a = Dn
        · subst z; exact h0
        · rw [upd_ne z] at e; exact w5.live a e
      · have r5 := r4w.sub h0
        refine ⟨r5.len, fun j s y' h1 h2 => slot_mono (r5.sl j s y' h1 h2) (Same.refl _) fun o p hp w => w.keep (Same.refl _) w.1 fun o' ho' => ?_, r5.sep⟩
        have ne3 : p ≠ Dn := fun z => by
          subst z
          exact njw _ pw j s h1 o (by rw [h2, hp])
        rw [upd_ne ne3]; exact ho'
    | false =>
      rw [if_neg Bool.false_ne_true] at q3
      refine iteF ?_
      obtain ⟨hp3, q3⟩ := q3
      obtain ⟨w5, nF5, hD5⟩ := wf3.sub h0 hP hF0
      have r3w : Rs K (bb.add Dn (.lst accv)) (wipeS δ3 vs) (L2.wipe σ vs) F3 H3 := by rw [← hw]; exact r3.wipe vs
      have pw : (wipeS δ3 vs).map S.owned = (wipeS δ1 vs).map S.owned := (pat_wipe (δ := δ') (vs := vs) (δ' := δ3) (hun δ' hpat) hp3).trans hpat
      exact ⟨wipeS δ3 vs, F3, acc, accv, w5, sx.trans s3, r3w.sub h0, hD5, nF5, racc.mono (ex.ff.trans s3), pw, q3⟩
  · have e : i = items.length := by omega
    subst e
    rw [List.drop_length] at lp
    refine .inl ⟨st, k acc _ lp Dn F' H' wf' s' (r1.back s' hu r') ⟨⟨nF', accv, hD, racc⟩, h0, fun j s hj o z => ?_⟩⟩
    have hl : δ'.length = δ1.length := by rw [← r'.len, wipe_length, r1.len]
    rw [backS_get _ _ hl] at hj
    by_cases hv : j ∈ vs
    · rw [if_pos hv] at hj; rw [hu j hv s hj] at o; cases o
    · rw [if_neg hv] at hj
      exact njw δ' hpat j s hj o (by rw [wipe_get, if_neg hv]; exact z)

def wLcO (i : Nat) (g : Wg) (t : Wb) (u : Wt) (vs : List Nat) : Wl := fun δ Q Y => ∃ xs, δ[i]? = some (.ol false xs) ∧ (∀ v ∈ vs, ∀ s : S, (δ.set i .no)[v]? = some s → s.owned = false) ∧
  lcD g t u vs (δ.set i .no) (fun acc δ' => Q acc (δ'.set i (.ol false xs))) xs [] (wipeS (δ.set i .no) vs)
theorem tr_lcO {i : Nat} {g : Wg} {t : Wb} {u : Wt} {vs ts : List Nat} {σ : L2.St} {H : Hp} {Q : VK} (hts : ∀ j ∈ ts, j ∈ vs) (h : TrL K W (wLcO i g t u vs) σ H Q) : tLc (fun σ H R => tVar i σ H fun x H1 => ∃ a, x = .ref a ∧ (∃ xs, SqL K H1 a xs) ∧ R (Itl K a) H1) (TrG K ts g) (TrT K W0 t) (Tr K W0 u) vs σ H Q := by
  obtain ⟨bb, δ, F, Po, Px, wf, r, ⟨xs, hi, hu, q⟩, k, kx⟩ := h
  obtain ⟨p, hp, ⟨nF, vl, hv, rr⟩, h0⟩ := r.own hi rfl
  have h0 : bb.H0 p = none := h0
  have hP : ∀ j, bb.P j ≠ some p := fun j z => by
    obtain ⟨o, ho⟩ := wf.pn j p z
    rw [h0] at ho; cases ho
  have hF0 : bb.F0 p = none := wf.ff.free nF
  have wA := wf.add h0 nF hv
  have rD := r.drop i
  have no : ∀ (j : Nat) (s : S), (δ.set i .no)[j]? = some s → s.owned = true → σ[j]? ≠ some (some (.ref p)) := fun j s hj o z => by
    by_cases e : i = j
    · subst e
      have hl : i < δ.length := (List.getElem?_eq_some_iff.mp hi).1
      rw [List.getElem?_set_self hl] at hj
      cases hj; cases o
    · rw [List.getElem?_set_ne e] at hj
      exact r.sep i j _ s p e hi hj rfl o hp z
  have rA := rD.add (o := .lst vl) no
  refine ⟨_, hp, p, rfl, ⟨vl, .inl (.inl hv)⟩, ?_⟩
  refine lc_coreW (H := H) hts wA rA hu q (fun F' H' w' s' => ?_) (fun acc δ' qa q0 F' H' w' s' r' n' => ?_)
  · have hv' : H' p = some (.lst vl) := w'.keep p _ hP (by show (if p = p then some _ else _) = _; rw [if_pos rfl])
    have hl := rr.length
    have hsq : SqL K H' p vl := .inl (.inl hv')
    refine ⟨⟨vl, hsq, by omega⟩, fun j d hd => ?_⟩
    obtain ⟨v, hvj, rv⟩ := rr.get hd
    refine ⟨⟨vl, v, hsq, hvj⟩, fun y H'' hy => ?_⟩
    obtain ⟨e1, z⟩ := hy
    subst e1
    have z1 := z vl hsq
    rw [hvj] at z1
    cases z1
    exact ⟨F', Ext.refl w'.fh, rv.mono s'⟩
  · obtain ⟨w5, nF5, hv5⟩ := w'.sub h0 hP hF0
    obtain ⟨own, hq0, nj⟩ := n'
    have nqp : q0 ≠ p := fun z => by
      subst z
      have : (if q0 = q0 then some (HO.lst vl) else bb.H0 q0) = none := hq0
      rw [if_pos rfl] at this; cases this
    have hq1 : bb.H0 q0 = none := by
      have z : (if q0 = p then some (HO.lst vl) else bb.H0 q0) = none := hq0
      rwa [if_neg nqp] at z
    have oth : ∀ (j : Nat) (s : S), δ'[j]? = some s → s.owned = true → σ[j]? ≠ some (some (.ref p)) := fun j s hj o z => by
      obtain ⟨p', hp', _, hb⟩ := r'.own hj o
      rw [z] at hp'
      cases hp'
      by_cases hin : s.inp = true
      · rw [if_pos hin] at hb; exact hP j hb
      · rw [if_neg hin] at hb
        have : (if p = p then some (HO.lst vl) else bb.H0 p) = none := hb
        rw [if_pos rfl] at this; cases this
    have r5 := r'.sub h0
    have r6 : Rs K bb (δ'.set i (.ol false xs)) σ F' H' := r5.put hp (fun y e => by cases e; exact ⟨p, rfl, ⟨nF5, vl, hv5, rr.mono s'⟩, h0⟩) (fun e => by cases e)
      (fun _ p1 e j t _ hj ho => by cases e; exact oth j t hj ho)
    refine k _ _ qa q0 F' H' w5 s' r6 ⟨own, hq1, fun j s hj o z => ?_⟩
    by_cases e : i = j
    · subst e
      rw [hp] at z
      cases z
      exact nqp rfl
    · rw [List.getElem?_set_ne e] at hj
      exact nj j s hj o z
theorem xl_lcO (i : Nat) {elt : Expr} {tg : Expr} {ifs : List Expr} {scope : Scope} {own : List (Str × Nat)} {g : Wg} {t : Wb} {u : Wt} {ts : List Nat} (hc : X.calm = true) (hN : X.N.Nodup) (hNi : X.N[i]? = some x)
    (hv : Vis X.env.scope x) (hd : (x == ("__debug__" : Str)) = false)
    (hcd : (x == ("__classdict__" : Str)) = false) (ok : BlkOk X.N X.env.scope scope own) (hts : ∀ j ∈ ts, j ∈ own.map (·.2))
    (hg : ∀ (s : Shared) (H : Hp) (C : Addr) (cl : List (Str × Addr)) (fp : List Addr), PG (X.blk s H scope (PySem.compEnvC scope cl C X.env) fp) tg (TrG X.K ts g)) (ht : ∀ (s : Shared) (H : Hp) (C : Addr) (cl : List (Str × Addr)) (fp : List Addr), PTs (X.blk s H scope (PySem.compEnvC scope cl C X.env) fp) ifs (TrT X.K W0 t))
    (he : ∀ (s : Shared) (H : Hp) (C : Addr) (cl : List (Str × Addr)) (fp : List Addr), PE (X.blk s H scope (PySem.compEnvC scope cl C X.env) fp) elt (Tr X.K W0 u)) (hs : ∀ y, foldedSetIterable (.Name x p) X.env y = pure y := by intro _; rfl) :
    PE X (.ListComp elt [⟨tg, .Name x p, ifs, 0⟩] scope pos) (TrL X.K W (wLcO i g t u (own.map (·.2)))) := pe_imp (pe_lc hc hN (pi_list (pe_var hNi hv hd hcd)) ok hg ht he hs) fun _ _ _ => tr_lcO hts
/-- an own list as a test -/
def wTruO (i : Nat) : Wb := fun δ Q _ => ∃ k xs, δ[i]? = some (.ol k xs) ∧ Q (!xs.isEmpty) δ
theorem x_truO (i : Nat) (hN : X.N[i]? = some x := by rfl) (hv : Vis X.env.scope x := by first | exact Or.inl rfl | exact Or.inr (Or.inl rfl) | exact Or.inr (Or.inr rfl)) (hd : (x == ("__debug__" : Str)) = false := by decide)
    (hcd : (x == ("__classdict__" : Str)) = false := by decide) (he : ∀ whole, isTrue (.Name x p) X.env whole = (do let v ← whole; standAt (Expr.Name x p).pos; holding [v] (truthy v)) := by intro _; rfl) : PT X (.Name x p) (TrT X.K W (wTruO i)) :=
  pt_imp (pt_truth (pe_var hN hv hd hcd) he) fun σ H Q h => by
    obtain ⟨bb, δ, F, Po, Px, wf, r, ⟨k0, xs, hi, q⟩, k, kx⟩ := h
    obtain ⟨q0, hq, ⟨nF, vs, hvs, rr⟩, _⟩ := r.own hi rfl
    refine ⟨_, hq, _, .inl ⟨vs, .inl (.inl hvs), ?_⟩, k _ _ q F H wf (Same.refl _) r⟩
    cases xs with
    | nil => rw [show vs = [] from rr]; rfl
    | cons y ys => obtain ⟨_, _, rfl, _⟩ := rr; rfl
theorem reps_last {F : Hp} : ∀ {ds : List D} {d : D} {vs : List V}, Reps K F (ds ++ [d]) vs → ∃ ws w, vs = ws ++ [w] ∧ Reps K F ds ws ∧ Rep K F d w
  | [], d, vs, h => by
    obtain ⟨v, r, h1, h2, h3⟩ := h
    exact ⟨[], v, by rw [h1, show r = [] from h3]; rfl, rfl, h2⟩
  | y :: ds, d, vs, h => by
    obtain ⟨v, r, h1, h2, h3⟩ := h
    obtain ⟨ws, w, e, r1, r2⟩ := reps_last (ds := ds) (d := d) (vs := r) h3
    exact ⟨v :: ws, w, by rw [h1, e]; rfl, Reps.cons h2 r1, r2⟩
/-- x.pop() -/
def wPop (i : Nat) : Wt := fun δ Q _ => ∃ k ys d, δ[i]? = some (.ol k (ys ++ [d])) ∧ Q d (δ.set i (.ol k ys))
theorem x_pop (i : Nat) (hN : X.N[i]? = some x := by rfl) (hv : Vis X.env.scope x := by first | exact Or.inl rfl | exact Or.inr (Or.inl rfl) | exact Or.inr (Or.inr rfl)) (hd : (x == ("__debug__" : Str)) = false := by decide)
    (hcd : (x == ("__classdict__" : Str)) = false := by decide)
    (hbase : attributeBase (.Name x p) "pop" X.env (eval (.Name x p) X.env) = eval (.Name x p) X.env := by rfl) (hline : (apos.endLine == cpos.line) = true := by rfl) :
    PE X (.Call (.Attribute (.Name x p) "pop" apos) [] [] cpos) (Tr X.K W (wPop i)) :=
  pe_imp (pe_bm0 PySem.F.plainAttrs_list PySem.F.slot_list_pop PySem.F.type_list_pop (r := rPop) mt_pop (pe_var hN hv hd hcd) hbase hline) fun σ H Q h => by
    obtain ⟨bb, δ, F, Po, Px, wf, r, ⟨k0, ys, d, hi, q⟩, k, kx⟩ := h
    obtain ⟨p, hp, ⟨nF, vs, hv0, rr⟩, _⟩ := r.own hi rfl
    obtain ⟨ws, w, rfl, rw1, rw2⟩ := reps_last rr
    refine ⟨_, hp, .inl ⟨rfl, _, .inl (.inl hv0)⟩, ?_⟩
    obtain ⟨w1, w2⟩ := own_upd (s' := .ol k0 ys) (o' := .lst ws) wf r hi rfl rfl rfl hp hv0 ⟨nF, _, upd_same, rw1⟩
    refine ⟨p, _, w, rfl, rfl, hv0, ?_, ?_⟩
    · rw [List.length_append, List.length_singleton, Nat.add_sub_cancel, List.getElem?_append_right (Nat.le_refl _), Nat.sub_self]; rfl
    · rw [List.dropLast_concat]
      exact k _ _ q _ F _ w1 (Same.refl _) w2 rw2
/-- x.insert(j, e) -/
def wIns (i : Nat) (u : Wa) : Wt := fun δ Q Y => (∃ k xs, δ[i]? = some (.ol k xs)) ∧ u δ (fun as δ1 => ∃ (j : Int) (d : D) (k : Bool) (xs : List D), trees as = some [.int j, d] ∧ 0 ≤ j ∧ j ≤ 1000 ∧ δ1[i]? = some (.ol k xs) ∧ xs.length < 1000 ∧ Q .non (δ1.set i (.ol k (xs.take j.toNat ++ [d] ++ xs.drop j.toNat)))) Y
theorem x_ins (i : Nat) {e2 : Expr} {u : Wa} (ha : PA X [e, e2] (TrA X.K W u)) (hN : X.N[i]? = some x := by rfl) (hv : Vis X.env.scope x := by first | exact Or.inl rfl | exact Or.inr (Or.inl rfl) | exact Or.inr (Or.inr rfl)) (hd : (x == ("__debug__" : Str)) = false := by decide)
    (hcd : (x == ("__classdict__" : Str)) = false := by decide)
    (hbase : attributeBase (.Name x p) "insert" X.env (eval (.Name x p) X.env) = eval (.Name x p) X.env := by rfl)
    (hfew : ((backTo cpos (starEach [e, e2] X.env)).all (fun x => !x.1) && (backToKw cpos (keywordEach [] X.env)).all (fun x => x.1.isSome)
      && decide ([e, e2].length + ([] : List Keyword).length + (if ([] : List Keyword).isEmpty then 0 else 1) < 30)) = true := by rfl)
    (hline : (apos.endLine == cpos.line) = true := by rfl) (hs : starEach [e, e2] X.env = (false, eval e X.env) :: starEach [e2] X.env := by rfl) (hplain : (backTo cpos (starEach [e2] X.env)).any (·.1) = false := by rfl) :
    PE X (.Call (.Attribute (.Name x p) "insert" apos) [e, e2] [] cpos) (Tr X.K W (wIns i u)) :=
  pe_imp (pe_bm PySem.F.plainAttrs_list PySem.F.slot_list_insert PySem.F.type_list_insert mt_insert (pe_var hN hv hd hcd) ha hbase hfew hline hs hplain) fun σ H Q h => by
    obtain ⟨bb, δ, F, Po, Px, wf, r, ⟨⟨k0, ys, hk0⟩, q⟩, k, kx⟩ := h
    obtain ⟨p, hp, ⟨nF0, vs0, hv0, _⟩, _⟩ := r.own hk0 rfl
    refine ⟨_, hp, .inl ⟨rfl, vs0, .inl (.inl hv0)⟩, ?_⟩
    refine ⟨bb, δ, F, _, _, wf, r, q, fun as δ1 q1 vs1 F1 H1 wf1 s1 r1 ra => ?_, fun er δ' hx => kx er δ' hx⟩
    obtain ⟨j, d, k1, xs, hds, j0, j1, hi, hl, q2⟩ := q1
    obtain ⟨vj, v, rfl, rj, rv⟩ := reps2 (reps_of ra hds)
    obtain ⟨p2, hp2, ⟨nF, vs, hvs, rr⟩, _⟩ := r1.own hi rfl
    rw [hp] at hp2
    cases hp2
    obtain ⟨w1, w2⟩ := own_upd (s' := .ol k1 (xs.take j.toNat ++ [d] ++ xs.drop j.toNat)) (o' := .lst (vs.take j.toNat ++ [v] ++ vs.drop j.toNat)) wf1 r1 hi rfl rfl rfl hp hvs
      ⟨nF, _, upd_same, ((reps_take _ rr).append (Reps.cons (ds := []) (vs := []) rv rfl)).append (reps_drop _ rr)⟩
    exact ⟨p, vs, j, v, rfl, by rw [show vj = _ from rj], hvs, by rw [rr.length]; exact small1000 (by omega), j0, by omega, k _ _ q2 _ F1 _ w1 s1 w2 rfl⟩
/-- zip of two lists -/
def wZip (u : Wa) : Wi := fun δ Q Y => u δ (fun as δ1 => ∃ xs ys, trees as = some [.lst xs, .lst ys] ∧ Q (List.zipWith (fun x y => D.tup [x, y]) xs ys) δ1) Y
theorem itD_zip {F : Hp} {l m : Addr} {vs us : List V} {xs ys : List D} (h : SqL K F l vs) (h' : SqL K F m us) (r : Reps K F xs vs) (r' : Reps K F ys us) : ItD K (Itz K l m) (List.zipWith (fun x y => D.tup [x, y]) xs ys) F := fun F' H' s1 s2 => by
  have hl := r.length
  have hl' := r'.length
  have q : SqL K H' l vs := Same.seq s2 (Same.seq s1 h)
  have q' : SqL K H' m us := Same.seq s2 (Same.seq s1 h')
  refine ⟨⟨vs, us, q, q', ?_⟩, fun i d hd => ?_⟩
  · rw [List.length_zipWith]; omega
  · rw [List.getElem?_zipWith] at hd
    cases h1 : xs[i]? with
    | none => rw [h1] at hd; cases hd
    | some d1 =>
      cases h2 : ys[i]? with
      | none => rw [h1, h2] at hd; cases hd
      | some d2 =>
        rw [h1, h2] at hd
        cases hd
        obtain ⟨v1, hv1, rv1⟩ := r.get h1
        obtain ⟨v2, hv2, rv2⟩ := r'.get h2
        refine ⟨⟨vs, us, v1, v2, q, q', hv1, hv2⟩, fun y H'' hy => ?_⟩
        obtain ⟨T, x1, y1, e, nT, e2, z1, z2⟩ := hy
        subst e e2
        have a1 := z1 vs q
        have a2 := z2 us q'
        rw [hv1] at a1
        rw [hv2] at a2
        cases a1
        cases a2
        have ex := Ext.new1 (o := .tup [v1, v2]) s2 nT
        exact ⟨_, ex, T, [v1, v2], rfl, .inl (.inl upd_same), Reps.cons ((rv1.mono s1).mono ex.ff) (Reps.cons ((rv2.mono s1).mono ex.ff) rfl)⟩
theorem xi_zip {u : Wa} {elts : List Expr} {kk : Nat} {tpos : Pos} (ha : PA X [a, b] (TrA X.K W u)) (hm : X.mg "zip" = none) (hg : Gl X "zip" := by rfl)
    (hs : starEach [a, b] X.env = (false, eval a X.env) :: starEach [b] X.env := by rfl) (hpl : (backTo pos (starEach [b] X.env)).any (·.1) = false := by rfl) :
    PI X (.Tuple elts kk tpos) (.Call (.Name "zip" p) [a, b] [] pos) (TrI X.K W (wZip u)) := pi_imp (pi_zip hg hm ha hs hpl) fun σ H R h => by
  obtain ⟨bb, δ, F, Po, Px, wf, r, q, k, kx⟩ := h
  refine ⟨bb, δ, F, _, _, wf, r, q, fun as δ1 q1 vs F1 H1 wf1 s1 r1 ra => ?_, kx⟩
  obtain ⟨xs, ys, hds, q2⟩ := q1
  obtain ⟨v, w, rfl, rv, rw'⟩ := reps2 (reps_of ra hds)
  obtain ⟨l, vl, rfl, hl, rl⟩ := rv
  obtain ⟨m, um, rfl, hm', rm⟩ := rw'
  exact ⟨l, m, vl, um, rfl, Same.seq wf1.fh hl, Same.seq wf1.fh hm', k _ δ1 q2 _ F1 H1 wf1 s1 r1 (itD_zip hl hm' rl rm)⟩
/-- an own list let go: a tree from here on -/
def wVarF (i : Nat) : Wt := fun δ Q _ => ∃ xs, δ[i]? = some (.ol false xs) ∧ Q (.lst xs) (δ.set i (.v (.lst xs)))
theorem x_varF (i : Nat) (hN : X.N[i]? = some x := by rfl) (hv : Vis X.env.scope x := by first | exact Or.inl rfl | exact Or.inr (Or.inl rfl) | exact Or.inr (Or.inr rfl)) (hd : (x == ("__debug__" : Str)) = false := by decide)
    (hcd : (x == ("__classdict__" : Str)) = false := by decide) : PE X (.Name x pos) (Tr X.K W (wVarF i)) := pe_imp (pe_var hN hv hd hcd) fun σ H Q h => by
  obtain ⟨bb, δ, F, Po, Px, wf, r, ⟨xs, hi, q⟩, k, kx⟩ := h
  obtain ⟨p, hp, own, h0⟩ := r.own hi rfl
  have hl : i < δ.length := (List.getElem?_eq_some_iff.mp hi).1
  obtain ⟨F2, w2, s2, r2, rep⟩ := freeze wf (r.drop i) ⟨own, h0, fun j s hj o z => by
    by_cases e : i = j
    · subst e
      rw [List.getElem?_set_self hl] at hj
      cases hj; cases o
    · rw [List.getElem?_set_ne e] at hj
      exact r.sep i j _ s p e hi hj rfl o hp z⟩
  have r3 : Rs X.K bb ((δ.set i .no).set i (.v (.lst xs))) σ F2 H := r2.put hp (fun y e => by cases e; exact ⟨_, rfl, rep⟩) (fun e => by cases e) (fun o => by cases o)
  rw [List.set_set] at r3
  exact ⟨_, hp, k _ _ q _ F2 H w2 s2 r3 rep⟩
end
end L3

set_option Elab.async false
set_option linter.all false
set_option maxRecDepth 100000
set_option maxHeartbeats 2000000
/-! try with several clauses, with and without a name -/
namespace L3
open PySem L2 PyProof.Rows
structure Cl where
  c : Value
  i : Option Nat
  ts : Addr → Value → Option Addr → TS
/-- what a clause's suite is asked, and its ends -/
def Cl.go (l : Cl) (D : Ends) (cls : Value) (d : Option Addr) (σ : L2.St) (H : Hp) (a : Addr) : Prop := match l.i with
  | none => l.ts a cls d D σ H
  | some i => l.ts a cls d { nx := fun σ' H' => D.nx (σ'.set i none) H', rt := D.rt, bk := fun σ' H' => D.bk (σ'.set i none) H', ct := fun σ' H' => D.ct (σ'.set i none) H' } (σ.set i (some (.ref a))) H
def wSome (K : PySem.W.Frag) (Wo : WX) (D : Ends) : List Cl → WX
  | [] => Wo
  | l :: r => fun cls d σ H => ∃ k, PySem.W.exmOne K cls l.c = some k ∧ (k = true → ∀ a, H a = none → l.go D cls d σ H a) ∧ (k = false → wSome K Wo D r cls d σ H)
/-- the clauses as they are written -/
inductive Cls3 (X : Cx) : List ExceptHandler → List Cl → Prop
  | nil : Cls3 X [] []
  | no {x : Str} {l : Cl} {b0 : Stmt} {su : List Stmt} {p1 p2 : Pos} {hs : List ExceptHandler} {ls : List Cl} (hc : Names X x l.c) (hi : l.i = none)
      (hsu : ∀ (a : Addr) (ob : Obj) (cls : Value) (d : Option Addr) (pn : List (Addr × Obj)), Zc cls d ob → (∃ vs, ob.data = .fields vs) → PSs (X.suite a ((a, ob) :: pn)) (b0 :: su) (l.ts a cls d)) (r : Cls3 X hs ls) :
      Cls3 X (.ExceptHandler (some (.Name x p1)) none (b0 :: su) p2 :: hs) (l :: ls)
  | yes {x n : Str} {i : Nat} {l : Cl} {b0 : Stmt} {su : List Stmt} {p1 p2 : Pos} {hs : List ExceptHandler} {ls : List Cl} (hc : Names X x l.c) (hi : l.i = some i) (hN : X.N.Nodup) (hn : X.N[i]? = some n) (hl : X.env.kindOf n = some .local)
      (hsu : ∀ (a : Addr) (ob : Obj) (cls : Value) (d : Option Addr) (pn : List (Addr × Obj)), Zc cls d ob → (∃ vs, ob.data = .fields vs) → PSs (X.suite a ((a, ob) :: pn)) (b0 :: su) (l.ts a cls d)) (r : Cls3 X hs ls) :
      Cls3 X (.ExceptHandler (some (.Name x p1)) (some n) (b0 :: su) p2 :: hs) (l :: ls)
theorem try3 {X : Cx} {body : List Stmt} {h0 : ExceptHandler} {hds : List ExceptHandler} {ls : List Cl} {pos : Pos} {tb : WX → TS} {Wo : WX} (hst : X.stack = X.env :: X.outer) (hfm : X.env.frame = some X.env.locals) (tk : Takes X Wo)
    (hb : ∀ (W : WX) (pn : List (Addr × Obj)) (xe : Value → Shared → Prop), Takes (X.tr pn xe) W → PassesOwn (model X.prog X.w) X.A X.env xe → PSs (X.tr pn xe) body (tb W))
    (hh : Cls3 X (h0 :: hds) ls) : PS X (.Try body (h0 :: hds) [] [] pos) (fun D σ H => tb (wSome X.K Wo D ls) D σ H) := ⟨fun pins s σ H D I hyp => by
  have okI := I.ok
  have frI : X.A.frames = some (X.env :: X.outer) := by rw [okI.frames, hst]
  apply wpAny_Try_except
  apply wpAny_mono ((hb (wSome X.K Wo D ls) (X.pn ++ pins) (fun e s₁ => wpAny (model X.prog X.w) X.A (noteFrame e X.env) (fun _ s₂ => wpAny (model X.prog X.w) X.A (setFlight e none) (fun _ s₃ => wpAny (model X.prog X.w) X.A (handleBy e X.env (h0 :: hds)) (SP X pins D) X.xe s₃) X.xe s₂) X.xe s₁) ?caught PassesOwn.looking).run [] s σ H D (I.toTry _) hyp) ?through (fun e s1 he => he)
  case caught =>
    intro u s' xx
    obtain ⟨a, Bh, sJ, pins1, σ1, H1, cls, d, rfl, J0, nb, up, sky, na, os, ag, ask⟩ := xx
    have J : Inv X pins σ1 H1 sJ := J0.ofTry okI
    have sk2 : Sky Bh (X.env :: X.outer) a (Zc cls d) X.env.locals s'.heap := by rw [← hst]; exact sky
    show wpAny (model X.prog X.w) X.A (noteFrame (.ref a) X.env) _ _ _
    apply Sky.land Zc.steady frI hfm sk2
    intro h3 fl3 up3
    have Ja : Inv X pins σ1 H1 { s' with heap := h3 } := J.landed nb fl3.1 (up.trans up3) os ag
    obtain ⟨ob3, vs3, ge3, zc3, da3⟩ := fl3.there
    have ff3 : h3.FunFrames Bh (X.env :: X.outer) := fl3.2.2.1
    have awayFr : a ∉ frs (X.env :: X.outer) := fun hm => by
      obtain ⟨_, o', e', hnf⟩ := ff3.mem hm
      rw [ge3] at e'; cases e'; exact hnf vs3 da3
    have awayL : a ≠ X.env.locals := fun z => awayFr (List.mem_filterMap.mpr ⟨X.env, List.mem_cons_self, by rw [hfm, z]⟩)
    have awayF : a ∉ X.fs := fun hm => let ⟨e, he, q⟩ := List.mem_filterMap.mp hm
      awayFr (List.mem_filterMap.mpr ⟨e, List.mem_cons_of_mem _ he, q⟩)
    have Sa := Ja.suite ge3 da3 na awayL awayF
    have LT : PySem.W.Looks (model X.prog X.w) h3 (typeOf (.ref a)) cls := fun A Q E s k q => wpAny_typeOf_ref (k _ _ ge3) (by rw [zc3.1]; exact q)
    have name : ∀ {x : Str} {c : Value} {np : Pos} {Q : Value → Shared → Prop} {E : Value → Shared → Prop}, Names X x c → Q c { s' with heap := h3 } → wpAny (model X.prog X.w) (X.A.mark (some (.ref a))) (eval (.Name x np) X.env) Q E { s' with heap := h3 } := fun {x c np Q E} hc q => by
      rcases hc with ⟨hg, hdb, hm | ⟨hm, hv, hnn⟩⟩
      · exact ld_glob (X := X.suite a ((a, ob3) :: (X.pn ++ pins))) Sa hg hm q hdb
      · exact ld_blt (X := X.suite a ((a, ob3) :: (X.pn ++ pins))) Sa hg hm hv q hnn hdb
    suffices all : ∀ {hs' : List ExceptHandler} {ls' : List Cl}, Cls3 X hs' ls' → wSome X.K Wo D ls' cls d σ1 H1 → wpAny (model X.prog X.w) X.A (handleBy (.ref a) X.env hs') (SP X pins D) X.xe { s' with heap := h3 } from all hh ask
    intro hs' ls' hk
    induction hk with
    | nil =>
      intro wq
      apply wpAny_handleBy_nil
      obtain ⟨_, _, _, ob, vs, T, oT, ts', ge, hz, da, h1, hr⟩ := id fl3
      unfold PySem.passOn
      apply wpAny_bind (wpAny_field ge da h1 ?_)
      rw [if_neg (show ¬ ((Value.ref T == Value.none) = true) from by simp)]
      have onward : wpAny (model X.prog X.w) X.A (setFlight (.ref a) X.env.frame) (fun _ s4 => wpAny (model X.prog X.w) X.A (throw (.ref a) : Sem Flow) (SP X pins D) X.xe s4) X.xe { s' with heap := h3 } := by
        rw [hfm]
        exact HandSPX.setFlight_upZ fl3 fun h4 hh4 up4 => wpAny_throw (tk _ _ ⟨a, Bh, sJ, pins, σ1, H1, cls, d, rfl, J, nb, (up.trans up3).trans up4, .inr (.inr (by rw [hst]; exact hh4)), na, os, ag, wq⟩)
      first | exact wpAny_bind (wpAny_pure (wpAny_bind onward)) | exact wpAny_bind onward
    | @no x l b0 su p1 p2 hs2 ls2 hc hi hsu r ih =>
      intro wq
      obtain ⟨k, hk1, hyes, hno⟩ := wq
      have LM := PySem.W.exm_one (M := model X.prog X.w) (Ja.kIn) LT hk1
      refine wpAny_handleBy_cons (codeAny_handlers_test ?_) (fun q => by cases q)
      refine name hc (LM.here ?_)
      cases k with
      | false => exact ih (hno rfl)
      | true =>
        apply codeAny_handlers_suite
        apply HandSPX.lands_againZ fl3
        intro h4 fl4 up4
        have Jb : Inv X pins σ1 H1 { s' with heap := h4 } := J.landed nb fl4.1 ((up.trans up3).trans up4) os ag
        obtain ⟨ob4, vs4, ge4, zc4, da4⟩ := fl4.there
        have ask' := hyes rfl a na
        unfold Cl.go at ask'
        rw [hi] at ask'
        apply wpAny_mono ((hsu a ob4 cls d (X.pn ++ pins) zc4 ⟨_, da4⟩).run [] _ _ H1 _ (Jb.suite ge4 da4 na awayL awayF) ask') ?_ (fun _ _ z => False.elim z)
        intro f s6 hsp
        cases f with
        | ret u => obtain ⟨v6, σ6, H6, S6, r6, q6⟩ := hsp; exact ⟨_, _, _, S6.unsuite okI, r6, q6⟩
        | _ => obtain ⟨σ6, H6, S6, q6⟩ := hsp; exact ⟨_, _, S6.unsuite okI, q6⟩
    | @yes x n i l b0 su p1 p2 hs2 ls2 hc hi hN hn hl hsu r ih =>
      intro wq
      obtain ⟨k, hk1, hyes, hno⟩ := wq
      have LM := PySem.W.exm_one (M := model X.prog X.w) (Ja.kIn) LT hk1
      refine wpAny_handleBy_cons (codeAny_handlers_test ?_) (fun q => by cases q)
      refine name hc (LM.here ?_)
      cases k with
      | false => exact ih (hno rfl)
      | true =>
        apply codeAny_handlers_suite_as
        apply HandSPX.lands_againZ fl3
        intro h4 fl4 up4
        have Jb : Inv X pins σ1 H1 { s' with heap := h4 } := J.landed nb fl4.1 ((up.trans up3).trans up4) os ag
        obtain ⟨ob4, vs4, ge4, zc4, da4⟩ := fl4.there
        have ask' := hyes rfl a na
        unfold Cl.go at ask'
        rw [hi] at ask'
        refine store_ok (X := X.suite a ((a, ob4) :: (X.pn ++ pins))) (v := .ref a) (Jb.suite ge4 da4 na awayL awayF) hN hn (.inl hl) rfl (fun s5 S5 => ?_) (.inr hl)
        apply wpAny_mono ((hsu a ob4 cls d (X.pn ++ pins) zc4 ⟨_, da4⟩).run [] s5 _ H1 _ S5 ask') ?_ (fun _ _ z => False.elim z)
        intro f s6 hsp
        have gone : ∀ {σ6 : L2.St} {H6 : Hp} {Q : Shared → Prop}, Inv (X.suite a ((a, ob4) :: (X.pn ++ pins))) [] σ6 H6 s6 → (∀ s7, Inv X pins (σ6.set i none) H6 s7 → Q s7) →
            wpAny (model X.prog X.w) X.A (do bindName X.env n .none; unbindBehindTheSuite X.env n p2) (fun _ s7 => Q s7) X.xe s6 := fun {σ6 H6 Q} S6 hq => gone_ok (S6.unsuite okI) hN hn hl hq
        cases f with
        | ret u => obtain ⟨v6, σ6, H6, S6, r6, q6⟩ := hsp; exact gone S6 fun s7 J7 => ⟨_, _, _, J7, r6, q6⟩
        | _ => obtain ⟨σ6, H6, S6, q6⟩ := hsp; exact gone S6 fun s7 J7 => ⟨_, _, J7, q6⟩
  case through =>
    intro f s1 hsp
    cases f with
    | next => obtain ⟨σ', H', J', q⟩ := hsp; exact wpAny_execs_nil ⟨σ', H', J'.ofTry okI, q⟩
    | ret u => obtain ⟨v, σ', H', J', r, q⟩ := hsp; exact ⟨v, σ', H', J'.ofTry okI, r, q⟩
    | _ => obtain ⟨σ', H', J', q⟩ := hsp; exact ⟨σ', H', J'.ofTry okI, q⟩⟩

/-! the reading -/
abbrev Cw := Value × Option Nat × (Addr → Value → Option Addr → Ws)
def pick3 (K : PySem.W.Frag) (E : DE) : List Cw → Er → List S → Prop
  | [], er, δ1 => E.xx er δ1
  | (c, none, ws) :: r, er, δ1 => ∃ k, PySem.W.exmOne K (.ref er.1) c = some k ∧ (k = true → ∀ a d, (er.2 ≠ [] → d ≠ none) → ws a (.ref er.1) d δ1 { E with xx := fun _ _ => False }) ∧ (k = false → pick3 K E r er δ1)
  | (c, some i, ws) :: r, er, δ1 => ∃ k, PySem.W.exmOne K (.ref er.1) c = some k ∧
      (k = true → ∀ a d, (er.2 ≠ [] → d ≠ none) → ws a (.ref er.1) d (δ1.set i (.ex a (.ref er.1) d (er.2.map (·.1)) (er.2.map (·.2)))) { nx := fun δ2 => E.nx (δ2.set i .no), rt := E.rt, bk := fun δ2 => E.bk (δ2.set i .no), ct := fun δ2 => E.ct (δ2.set i .no), xx := fun _ _ => False }) ∧ (k = false → pick3 K E r er δ1)
def wTry3 (K : PySem.W.Frag) (cs : List Cw) (wb : Ws) : Ws := fun δ E => wb δ { E with xx := pick3 K E cs }
def toCl (K : PySem.W.Frag) (c : Cw) : Cl := ⟨c.1, c.2.1, fun a cls d => TrS K W0 (c.2.2 a cls d)⟩
theorem pick_ok {K : PySem.W.Frag} {W : WX} {b : B} {F1 H1 : Hp} {σ1 : L2.St} {δ1 : List S} {Dn : Ends} {E : DE} {er : Er} {cls : Value} {d : Option Addr} (wf1 : Wf b F1 H1) (r1 : Rs K b δ1 σ1 F1 H1) (rx : RepX K F1 er cls d)
    (k1 : ∀ δ', E.nx δ' → ∀ σ' F' H', Wf b F' H' → Same F1 F' → Rs K b δ' σ' F' H' → Dn.nx σ' H')
    (k2 : ∀ δ', E.bk δ' → ∀ σ' F' H', Wf b F' H' → Same F1 F' → Rs K b δ' σ' F' H' → Dn.bk σ' H')
    (k3 : ∀ δ', E.ct δ' → ∀ σ' F' H', Wf b F' H' → Same F1 F' → Rs K b δ' σ' F' H' → Dn.ct σ' H')
    (k4 : ∀ r δ', E.rt r δ' → ∀ v F' H', Wf b F' H' → Same F1 F' → Fin K b δ' F' H' → RtOk K b F' H' r v → Dn.rt v H')
    (k5 : E.xx er δ1 → W cls d σ1 H1) : ∀ (cs : List Cw), pick3 K E cs er δ1 → wSome K W Dn (cs.map (toCl K)) cls d σ1 H1
  | [], q => k5 q
  | (c, none, ws) :: r, ⟨k, hk, y1, y2⟩ => by
    obtain ⟨hcl, hx⟩ := id rx
    subst hcl
    have hd : er.2 ≠ [] → d ≠ none := fun hne z => by
      subst z
      cases q : er.2 with
      | nil => exact hne q
      | cons y ys => rw [q] at hx; obtain ⟨_, _, z, _⟩ := hx; cases z
    refine ⟨k, hk, fun kt a na => ?_, fun kf => pick_ok wf1 r1 rx k1 k2 k3 k4 k5 r (y2 kf)⟩
    exact ⟨b, δ1, F1, _, wf1, r1, y1 kt a d hd, k1, k2, k3, k4, fun _ _ z => z.elim⟩
  | (c, some i, ws) :: r, ⟨k, hk, y1, y2⟩ => by
    obtain ⟨hcl, hx⟩ := id rx
    subst hcl
    have hd : er.2 ≠ [] → d ≠ none := fun hne z => by
      subst z
      cases q : er.2 with
      | nil => exact hne q
      | cons y ys => rw [q] at hx; obtain ⟨_, _, z, _⟩ := hx; cases z
    refine ⟨k, hk, fun kt a na => ?_, fun kf => pick_ok wf1 r1 rx k1 k2 k3 k4 k5 r (y2 kf)⟩
    have r1' : Rs K b (δ1.set i (.ex a (.ref er.1) d (er.2.map (·.1)) (er.2.map (·.2)))) (σ1.set i (some (.ref a))) F1 H1 := r1.set (fun y e => by
        cases e
        refine ⟨rfl, fun z hz => ?_⟩
        subst hz
        cases q : er.2 with
        | nil => rw [q] at hx; cases (show some z = none from hx)
        | cons y ys =>
          rw [q] at hx
          obtain ⟨z', vs, h1, h2, h3⟩ := hx
          cases h1
          exact ⟨vs, h2, h3⟩) (fun e => by cases e) (fun o => by cases o)
    exact ⟨b, _, F1, _, wf1, r1', y1 kt a d hd, fun δ2 q2 σ2 F2 H2 wf2 s2 r2 => k1 _ q2 _ F2 H2 wf2 s2 r2.setNo, fun δ2 q2 σ2 F2 H2 wf2 s2 r2 => k2 _ q2 _ F2 H2 wf2 s2 r2.setNo, fun δ2 q2 σ2 F2 H2 wf2 s2 r2 => k3 _ q2 _ F2 H2 wf2 s2 r2.setNo, k4, fun _ _ z => z.elim⟩
theorem s_try3 {X : Cx} {W : WX} {body : List Stmt} {h0 : ExceptHandler} {hds : List ExceptHandler} {cs : List Cw} {pos : Pos} {wb : Ws} (hst : X.stack = X.env :: X.outer) (hfm : X.env.frame = some X.env.locals) (tk : Takes X W)
    (hb : ∀ (W : WX) (pn : List (Addr × Obj)) (xe : Value → Shared → Prop), Takes (X.tr pn xe) W → PassesOwn (model X.prog X.w) X.A X.env xe → PSs (X.tr pn xe) body (TrS X.K W wb))
    (hh : Cls3 X (h0 :: hds) (cs.map (toCl X.K))) : PS X (.Try body (h0 :: hds) [] [] pos) (TrS X.K W (wTry3 X.K cs wb)) := ps_imp (try3 hst hfm tk hb hh) fun Dn σ H h => by
  obtain ⟨b, δ, F, E, wf, r, q, k1, k2, k3, k4, k5⟩ := h
  refine ⟨b, δ, F, _, wf, r, q, k1, k2, k3, k4, fun er δ1 q1 σ1 F1 H1 wf1 s1 r1 cls d rx => ?_⟩
  exact pick_ok wf1 r1 rx (fun δ2 q2 σ2 F2 H2 wf2 s2 r2 => k1 δ2 q2 σ2 F2 H2 wf2 (s1.trans s2) r2) (fun δ2 q2 σ2 F2 H2 wf2 s2 r2 => k2 δ2 q2 σ2 F2 H2 wf2 (s1.trans s2) r2) (fun δ2 q2 σ2 F2 H2 wf2 s2 r2 => k3 δ2 q2 σ2 F2 H2 wf2 (s1.trans s2) r2)
    (fun rv δ2 q2 v F2 H2 wf2 s2 => k4 rv δ2 q2 v F2 H2 wf2 (s1.trans s2)) (fun z => k5 er δ1 z σ1 F1 H1 wf1 s1 r1 cls d rx) cs q1
def wIfT (t u w : Wb) : Wb := fun δ Q Y => t δ (fun c δ1 => if c = true then u δ1 Q Y else w δ1 Q Y) Y
theorem x_ifT {X : Cx} {W : WX} {t u w : Wb} {c a b : Expr} {pos : Pos} (hc : PT X c (TrT X.K W t)) (ha : PT X a (TrT X.K W u)) (hb : PT X b (TrT X.K W w)) : PT X (.IfExp c a b pos) (TrT X.K W (wIfT t u w)) := ⟨fun pins s σ H Q I h => by
  obtain ⟨bb, δ, F, Po, Px, wf, r, q, k, kx⟩ := h
  have e : ∀ whole, isTrue (.IfExp c a b pos) X.env whole = (do if ← isTrue c X.env (eval c X.env) then isTrue a X.env (eval a X.env) else isTrue b X.env (eval b X.env)) := fun _ => rfl
  rw [e]
  refine wpAny_bind (wpAny_mono (hc.run pins s σ H (fun z H1 => if z = true then TrT X.K W u σ H1 Q else TrT X.K W w σ H1 Q) I ⟨bb, δ, F, _, _, wf, r, q, fun z δ1 q1 F1 H1 wf1 s1 r1 => ?_, kx⟩) (fun z s1 h1 => ?_) fun _ _ x => x)
  · cases z with
    | true => rw [if_pos rfl] at q1 ⊢; exact ⟨bb, δ1, F1, _, _, wf1, r1, q1, fun z δ2 q2 F2 H2 wf2 s2 r2 => k z δ2 q2 F2 H2 wf2 (s1.trans s2) r2, fun er δ' hx => Xp.back s1 (kx er δ' hx)⟩
    | false => rw [if_neg Bool.false_ne_true] at q1 ⊢; exact ⟨bb, δ1, F1, _, _, wf1, r1, q1, fun z δ2 q2 F2 H2 wf2 s2 r2 => k z δ2 q2 F2 H2 wf2 (s1.trans s2) r2, fun er δ' hx => Xp.back s1 (kx er δ' hx)⟩
  · obtain ⟨H1, I1, q1⟩ := h1
    cases z with
    | true => rw [if_pos rfl] at q1; exact ha.run pins s1 σ H1 Q I1 q1
    | false => rw [if_neg Bool.false_ne_true] at q1; exact hb.run pins s1 σ H1 Q I1 q1⟩
end L3

set_option Elab.async false
set_option linter.all false
set_option maxRecDepth 100000
set_option maxHeartbeats 1000000
/-! a = b = e -/
namespace L3
open PySem L2
section
variable {X : Cx} {K : PySem.W.Frag} {W : WX} {e : Expr} {pos : Pos}
def wAsg2 (u : Wt) (w1 w2 : Wg) : Ws := fun δ E => u δ (fun d δ1 => w1 d δ1 fun δ2 => w2 d δ2 E.nx) E.xx
theorem s_asg2 {u : Wt} {w1 w2 : Wg} {ts us : List Nat} {t1 t2 : Expr} (he : PE X e (Tr K W u)) (h1 : PG X t1 (TrG K ts w1)) (h2 : PG X t2 (TrG K us w2)) (ha : (assignEach [t1, t2] X.env).map (·.2) = [assign t1 X.env, assign t2 X.env] := by rfl) (hw : swappedStores [t1, t2] e X.env = pure none := by rfl) :
    PS X (.Assign [t1, t2] e pos) (TrS K W (wAsg2 u w1 w2)) := ps_imp (ps_asg2 he h1 h2 ha hw) fun Dn σ H h => by
  obtain ⟨b, δ, F, E, wf, r, q, k1, k2, k3, k4, k5⟩ := h
  refine ⟨b, δ, F, _, _, wf, r, q, fun d δ1 q1 v F1 H1 wf1 s1 r1 rv => ?_, k5_of k5⟩
  refine ⟨b, δ1, F1, d, _, wf1, r1, rv, q1, fun δ2 q2 σ2 o2 r2 => ?_⟩
  exact ⟨b, δ2, F1, d, _, wf1, r2, rv, q2, fun δ3 q3 σ3 o3 r3 => k1 δ3 q3 σ3 F1 H1 wf1 s1 r3⟩
theorem r_asg2 {u : Wt} {w1 w2 : Wg} {δ : List S} {E : DE} (h : u δ (fun d δ1 => w1 d δ1 fun δ2 => w2 d δ2 E.nx) E.xx) : wAsg2 u w1 w2 δ E := h
end
end L3

set_option Elab.async false
set_option linter.all false
set_option maxRecDepth 100000
set_option maxHeartbeats 1000000
/-! == of tuples whose items have an own ==: both answers -/
namespace GB
open PySem PySem.SeqAt
open AutoSeq1 (wpAny_loadPart')
open MeetsSeq MeetsSeq2 MeetsSeq3 SeqRoads2
section
variable {prog : Program} {w : World} {A : Around} {R : Result → Shared → Prop}
theorem tuple_eqB (l b : Addr) (items items2 : Array Value) (n n2 : Nat) (dd dd2 : Option Addr) (sl sl2 : Array (Option Value)) (e : Nat → Bool) (I : Nat → Shared → Prop)
    (turn : ∀ i (h1 : i < items.size) (h2 : i < items2.size) s, I i s → wpAny (model prog w) A.in1 (eqBool items[i] items2[i]) (fun r s' => r = e i ∧ I (i + 1) s') (fun e s' => R (.error e) s') s)
    (fin : ∀ i s, I i s → R (.ok (.ret (.bool ((List.range (min items.size items2.size)).all e && items.size == items2.size)))) s) {s : Shared} (hl1 : s.heap.get? l = some { cls := .type "tuple", dict := dd, data := .seq items n, slots := sl }) (hb1 : s.heap.get? b = some { cls := .type "tuple", dict := dd2, data := .seq items2 n2, slots := sl2 }) (h : I 0 s) :
    wpAny (model prog w) A.in1 (Builtin.«tuple.__eq__» ⟨[.ref l, .ref b], []⟩) (GQ.FinOf prog w A R) (fun e s' => R (.error e) s') s := by
  have f2 := AutoSeq1.sub_tuple_tuple
  have hZ : (items.toList.zip items2.toList).length = min items.size items2.size := by simp
  have h0 := h
  obtain ⟨hp, g, d, tk, os⟩ := s
  wp_walk using wpAny_loadPart' hl1, wpAny_loadPart' hb1, wpAny_forIn_list _ (fun rest b s' => b.1 = none ∧ ∃ i, rest = (items.toList.zip items2.toList).drop i ∧ I i s' ∧ (List.range (min items.size items2.size)).all e = ((List.range (min items.size items2.size)).drop i).all e) _
  case turn =>
    rintro ⟨y, x⟩ rest b s' ⟨hb', i, hz, hI, hall⟩
    have hlt : i < (items.toList.zip items2.toList).length := by
      rcases Nat.lt_or_ge i (items.toList.zip items2.toList).length with h' | h'
      · exact h'
      · rw [List.drop_of_length_le h'] at hz; cases hz
    have hm : i < min items.size items2.size := hZ ▸ hlt
    have h1 : i < items.size := Nat.lt_of_lt_of_le hm (Nat.min_le_left _ _)
    have h2 : i < items2.size := Nat.lt_of_lt_of_le hm (Nat.min_le_right _ _)
    rw [List.drop_eq_getElem_cons hlt] at hz
    injection hz with hyx hrest
    have hy : y = items[i] := by have := congrArg Prod.fst hyx; simpa using this
    have hx : x = items2[i] := by have := congrArg Prod.snd hyx; simpa using this
    subst hy hx
    have hd : (List.range (min items.size items2.size)).drop i = i :: (List.range (min items.size items2.size)).drop (i + 1) := by simp [List.drop_eq_getElem_cons, hm]
    rw [hd, List.all_cons] at hall
    refine wpAny_bind (wpAny_mono (turn i h1 h2 s' hI) (fun r s2 q2 => ?_) fun _ _ x => x)
    obtain ⟨hr, q2⟩ := q2
    subst hr
    cases hy : e i with
    | true =>
      rw [hy, Bool.true_and] at hall
      wp_walk
      exact ⟨rfl, i + 1, hrest, q2, hall⟩
    | false =>
      rw [hy, Bool.false_and] at hall
      have hR := fin _ _ q2
      rw [hall, Bool.false_and] at hR
      wp_walk
      simpa using hR
  case fin =>
    rintro ⟨b1, b2⟩ s' ⟨hb', i, hz, hI, hall⟩
    simp only at hb'
    subst hb'
    have hge : min items.size items2.size ≤ i := by
      rcases Nat.lt_or_ge i (items.toList.zip items2.toList).length with h' | h'
      · rw [List.drop_eq_getElem_cons h'] at hz; cases hz
      · exact hZ ▸ h'
    rw [List.drop_of_length_le (by simpa using hge)] at hall
    have hR := fin _ _ hI
    rw [hall] at hR
    wp_walk
    simpa [Builtin.Tuple.tupleCompareSizes] using hR
  case h =>
    exact ⟨rfl, 0, rfl, h0, rfl⟩
end
section
variable {prog : Program} {w : World} {A : Around} {E : Value → Shared → Prop} {s : Shared}
theorem rc_tupB {l b : Addr} {items items2 : Array Value} {e : Nat → Bool} {Q : Value → Shared → Prop} (hu : A.units < cLine) (I : Nat → Shared → Prop)
    (hl : s.heap.IsTuple l items) (hb : s.heap.IsTuple b items2)
    (turn : ∀ i (h1 : i < items.size) (h2 : i < items2.size) s, I i s → wpAny (model prog w) A.in1 (eqBool items[i] items2[i]) (fun r s' => r = e i ∧ I (i + 1) s') E s)
    (fin : ∀ i s, I i s → Q (.bool ((List.range (min items.size items2.size)).all e && items.size == items2.size)) s) (h : I 0 s) : wpAny (model prog w) A (richCompare .Eq (.ref l) (.ref b)) Q E s := by
  obtain ⟨⟨cls, dd, data, sl⟩, ho, hc, n, hd⟩ := id hl
  obtain ⟨⟨cls2, dd2, data2, sl2⟩, ho2, hc2, n2, hd2⟩ := id hb
  simp only at hc hd hc2 hd2
  subst hc hd hc2 hd2
  refine wpAny_richCompare_same_room (op := .Eq) ⟨_, ho, rfl⟩ ⟨_, ho2, rfl⟩ F.slot_tuple_eq (GQ.call_here F.slot_tuple_eq ⟨_, ho, rfl⟩ F.entry_tuple_eq (F.args_tuple_eq_2 _ _) ?_) hu
  exact tuple_eqB (R := wants (fun v s' => v ≠ .notImplemented ∧ Q v s') E) l b items items2 n n2 dd dd2 sl sl2 e I turn (fun i s' q => ⟨(fun x => nomatch x), fin i s' q⟩) ho ho2 h
end
end GB
namespace L3
open PySem L2
section
variable {X : Cx} {k n : Nat} {C f : Addr} {fd : FuncData} {ps : List Str} {ff : Fn}
abbrev EqvB := V → V → Bool → Hp → Prop
/-- == answers b for what D says, and only makes objects -/
def EqB (X : Cx) (n : Nat) (D : EqvB) : Prop :=
  ∀ (A : Around) (pins : List (Addr × Obj)) (s : Shared) (σ : L2.St) (H : Hp) (x y : V) (u v : Value) (b : Bool), RmG n A → A.frames = X.A.frames → Inv X pins σ H s → RelV x u → RelV y v → D x y b H →
    wpAny (model X.prog X.w) A (eqBool u v) (fun r s' => r = b ∧ ∃ H', Inv X pins σ H' s' ∧ Same H H') X.xe s
def RcB (X : Cx) (n : Nat) (D : EqvB) : Prop :=
  ∀ (A : Around) (pins : List (Addr × Obj)) (s : Shared) (σ : L2.St) (H : Hp) (x y : V) (u v : Value) (b : Bool), RmG n A → A.frames = X.A.frames → Inv X pins σ H s → RelV x u → RelV y v → D x y b H →
    wpAny (model X.prog X.w) A (richCompare .Eq u v) (fun r s' => r = .bool b ∧ ∃ H', Inv X pins σ H' s' ∧ Same H H') X.xe s
def MonB (D : EqvB) : Prop := ∀ x y b H H', Same H H' → D x y b H → D x y b H'
/-- the same thing is equal to itself -/
def RflB (X : Cx) (D : EqvB) : Prop := ∀ (pins : List (Addr × Obj)) (s : Shared) (σ : L2.St) (H : Hp) (x : V) (b : Bool), Inv X pins σ H s → D x x b H → b = true
theorem RcB.eqB {D : EqvB} (h : RcB X n D) (hx : RflB X D) (hr : ∀ x y b H, D x y b H → ∃ a c, x = .ref a ∧ y = .ref c) : EqB X n D := by
  intro A pins s σ H x y u v b hA hfr I rx ry d
  obtain ⟨a, c, rfl, rfl⟩ := hr _ _ _ _ d
  cases rx
  cases ry
  by_cases hac : a = c
  · subst hac
    have := hx _ _ _ _ _ _ I d
    subst this
    exact SeqAt.EqAt.same (A := A) (s := s) (.ref a) X.prog X.w X.xe _ ⟨rfl, H, I, Same.refl _⟩
  · refine GQ.eqBool_refG hac (wpAny_mono (h A pins s σ H (.ref a) (.ref c) _ _ b hA hfr I rfl rfl d) (fun r s' q => ?_) fun _ _ x => x)
    obtain ⟨hr', q⟩ := q
    exact ⟨b, hr', rfl, q⟩
/-! ### instances with an own == -/
/-- an instance of numbers -/
def LfR (C : Addr) (ff : Fn) : D → D → Bool → Prop := fun d e b => ∃ (ns : List Str) (is : List Int) (ms : List Str) (js : List Int), d = .obj C ns (is.map D.int) ∧ e = .obj C ms (js.map D.int) ∧ (d = e → b = true) ∧ ff [.v d, .v e] (fun r _ => rvD r = .bl b) (fun _ _ => False)
def LfV (K : PySem.W.Frag) (C : Addr) (ff : Fn) : EqvB := fun x y b H => ∃ F d e, Same F H ∧ Rep K F d x ∧ Rep K F e y ∧ LfR C ff d e b
theorem ints_inj {K : PySem.W.Frag} {F : Hp} : ∀ {is js : List Int} {vs : List V}, Reps K F (is.map D.int) vs → Reps K F (js.map D.int) vs → is = js
  | [], [], _, _, _ => rfl
  | [], j :: js, vs, h, h' => by
    rw [show vs = [] from h] at h'
    obtain ⟨v, r, e, _⟩ := h'
    cases e
  | i :: is, [], vs, h, h' => by
    rw [show vs = [] from h'] at h
    obtain ⟨v, r, e, _⟩ := h
    cases e
  | i :: is, j :: js, vs, h, h' => by
    obtain ⟨v, r, rfl, h1, h2⟩ := h
    obtain ⟨v', r', e, h3, h4⟩ := h'
    cases e
    have e1 : v = .int i := h1
    have e2 : v = .int j := h3
    rw [e1] at e2
    cases e2
    rw [ints_inj h2 h4]
theorem mon_lf {K : PySem.W.Frag} : MonB (LfV K C ff) := fun x y b H H' e ⟨F, d, e', sF, r1, r2, l⟩ => ⟨F, d, e', sF.trans e, r1, r2, l⟩
theorem rfl_lf : RflB X (LfV X.K C ff) := fun pins s σ H x b I ⟨F, d, e, sF, r1, r2, l⟩ => by
  obtain ⟨ns, is, ms, js, rfl, rfl, he, _⟩ := l
  refine he ?_
  obtain ⟨a, dx, vs, rfl, ha, hl, rr⟩ := r1
  obtain ⟨a', dx', vs', e1, ha', hl', rr'⟩ := r2
  cases e1
  rw [ha] at ha'
  have hz : ns.zip vs = ms.zip vs' := by injection ha' with h1; injection h1
  have e2 : ns = ms := by
    have := congrArg (List.map Prod.fst) hz
    rwa [List.map_fst_zip (by omega), List.map_fst_zip (by omega)] at this
  have e3 : vs = vs' := by
    have := congrArg (List.map Prod.snd) hz
    rwa [List.map_snd_zip (by omega), List.map_snd_zip (by omega)] at this
  subst e2 e3
  rw [ints_inj rr rr']
theorem rc_lf (O : CmpIn X.K C f "__eq__") (hn : okCmp X.K C (.obj C [] [])) (Fk : FnG X.prog X.w X.K X.mg X.base (L2.CX X.prog X.w) k f fd ps (spF X.K 2 ff)) (hb : Binds X.K fd ps []) (hl : ∀ as R Y, ff as R Y → as.length = 2) : RcB X k (LfV X.K C ff) := by
  intro A pins s σ H x y u v b hA hfr I rx ry d
  obtain ⟨F, d, e, sF, r1, r2, ns, is, ms, js, rfl, rfl, he, q⟩ := d
  obtain ⟨a, dx, vs, rfl, ha, hlv, rr⟩ := id r1
  obtain ⟨t, ht, hnf⟩ := hn
  cases (show u = Value.ref a from rx)
  obtain ⟨mA, J, _⟩ := ins_get I.hok (sF _ _ ha)
  obtain ⟨od, J, _⟩ := J.look
  obtain ⟨mm, hF⟩ := I.fr
  have go := run_own (A := A) (E := X.xe) (QQ := PySem.W.CmpBack (fun r s' => r = .bool b ∧ ∃ H', Inv X pins σ H' s' ∧ Same H H')) Fk hA hfr hb I sF r1 r2 (u := .ref a) rfl ry (P := fun z => z = .bl b) q hl fun z hz w u F' H' s' I' rw' ex rep => by
    subst hz
    rw [show w = .bl b from rep] at rw'
    cases (show u = Value.bool b from rw')
    exact notNI (v := .bl b) (u := .bool b) rfl ⟨rfl, H', I', ex.hh⟩
  exact PySem.W.cmp_K hA.r.units0 hF I.ok.mod.kin J (looks_ty I sF r2 ry (show tyD (.obj C ms (js.map D.int)) = some t from ht)) hnf O.at_ O.fn go
/-! ### tuples, item by item -/
def TupB (K : PySem.W.Frag) (D : EqvB) : EqvB := fun x y b H => ∃ (a c : Addr) (xs ys : List V) (bs : List Bool), x = .ref a ∧ y = .ref c ∧ SqT K H a xs ∧ SqT K H c ys ∧ bs.length = min xs.length ys.length ∧
  (∀ (i : Nat) (x y : V) (k : Bool), xs[i]? = some x → ys[i]? = some y → bs[i]? = some k → D x y k H) ∧ b = (bs.all id && decide (xs.length = ys.length))
theorem mon_tupB {K : PySem.W.Frag} {D : EqvB} (hD : MonB D) : MonB (TupB K D) := fun x y b H H' e ⟨a, c, xs, ys, bs, hx, hy, h1, h2, h3, h4, h5⟩ =>
  ⟨a, c, xs, ys, bs, hx, hy, seqT e h1, seqT e h2, h3, fun i x y k a1 a2 a3 => hD _ _ _ _ _ e (h4 i x y k a1 a2 a3), h5⟩
theorem rfl_tupB {D : EqvB} (hD : RflB X D) : RflB X (TupB X.K D) := fun pins s σ H x b I ⟨a, c, xs, ys, bs, hx, hy, h1, h2, h3, h4, h5⟩ => by
  subst hx
  cases hy
  have e := I.tuple_inj h1 h2
  subst e
  rw [h5]
  have hall : bs.all id = true := by
    rw [List.all_eq_true]
    intro k hk
    obtain ⟨i, hi, e⟩ := List.getElem_of_mem hk
    have hi' : i < xs.length := by omega
    exact hD _ _ _ _ _ _ I (h4 i xs[i] xs[i] k (List.getElem?_eq_getElem hi') (List.getElem?_eq_getElem hi') (by rw [List.getElem?_eq_getElem hi, e]))
  rw [hall]
  simp
theorem rc_tup {D : EqvB} (hD : MonB D) (h : EqB X n D) : RcB X (n + 1) (TupB X.K D) := by
  intro A pins s σ H x y u v b hA hfr I rx ry d
  obtain ⟨a, c, xs, ys, bs, rfl, rfl, h1, h2, h3, h4, rfl⟩ := d
  cases (show u = Value.ref a from rx)
  cases (show v = Value.ref c from ry)
  obtain ⟨its, r1, e1, _⟩ := I.tuple h1
  obtain ⟨its2, r2, e2, _⟩ := I.tuple h2
  have l1 := r1.length
  have l2 := r2.length
  have hfin : ((List.range (min its.toArray.size its2.toArray.size)).all (fun i => bs.getD i true) && its.toArray.size == its2.toArray.size) = (bs.all id && decide (xs.length = ys.length)) := by
    have z1 : its.toArray.size = xs.length := by rw [List.size_toArray, l1]
    have z2 : its2.toArray.size = ys.length := by rw [List.size_toArray, l2]
    rw [z1, z2]
    have e3 : (List.range (min xs.length ys.length)).all (fun i => bs.getD i true) = bs.all id := by
      rw [← h3, Bool.eq_iff_iff, List.all_eq_true, List.all_eq_true]
      constructor
      · intro q k hk
        obtain ⟨i, hi, e⟩ := List.getElem_of_mem hk
        have := q i (List.mem_range.mpr hi)
        rw [List.getD_eq_getElem?_getD, List.getElem?_eq_getElem hi] at this
        rw [← e]; exact this
      · intro q i hi
        have hi := List.mem_range.mp hi
        rw [List.getD_eq_getElem?_getD, List.getElem?_eq_getElem hi]
        exact q _ (List.getElem_mem hi)
    rw [e3]
    congr 1
  refine GB.rc_tupB (e := fun i => bs.getD i true) hA.r.units0 (fun _ s' => ∃ H', Inv X pins σ H' s' ∧ Same H H') e1 e2 (fun i k1 k2 s' ⟨H1, I1, x1⟩ => ?_) (fun i s' q => ⟨congrArg Value.bool hfin, q⟩) ⟨H, I, Same.refl _⟩
  have j1 : i < its.length := by simpa using k1
  have j2 : i < its2.length := by simpa using k2
  have m1 : i < xs.length := by omega
  have m2 : i < ys.length := by omega
  have m3 : i < bs.length := by omega
  obtain ⟨u, hu, ru⟩ := r1.get (List.getElem?_eq_getElem m1)
  obtain ⟨v, hv, rv⟩ := r2.get (List.getElem?_eq_getElem m2)
  have g1 : its.toArray[i] = u := by
    have : its[i]? = some its[i] := List.getElem?_eq_getElem j1
    rw [this] at hu
    have := Option.some.inj hu
    simpa using this
  have g2 : its2.toArray[i] = v := by
    have : its2[i]? = some its2[i] := List.getElem?_eq_getElem j2
    rw [this] at hv
    have := Option.some.inj hv
    simpa using this
  rw [g1, g2]
  have hb : bs.getD i true = bs[i] := by rw [List.getD_eq_getElem?_getD, List.getElem?_eq_getElem m3]; rfl
  rw [hb]
  refine wpAny_mono (h A.in1 pins s' σ H1 xs[i] ys[i] u v bs[i] hA.in1 hfr I1 ru rv (hD _ _ _ _ _ x1 (h4 i _ _ _ (List.getElem?_eq_getElem m1) (List.getElem?_eq_getElem m2) (List.getElem?_eq_getElem m3)))) (fun r s2 q => ?_) fun _ _ x => x
  obtain ⟨hr, H2, I2, x2⟩ := q
  exact ⟨hr, H2, I2, x1.trans x2⟩
/-! ### trees -/
/-- trees of tuples over a leaf, so deep -/
def EqN (lf : D → D → Bool → Prop) : Nat → D → D → Bool → Prop
  | 0, d, e, b => lf d e b
  | n + 1, d, e, b => ∃ (xs ys : List D) (bs : List Bool), d = .tup xs ∧ e = .tup ys ∧ bs.length = min xs.length ys.length ∧
      (∀ (i : Nat) (x y : D) (k : Bool), xs[i]? = some x → ys[i]? = some y → bs[i]? = some k → EqN lf n x y k) ∧ b = (bs.all id && decide (xs.length = ys.length))
def DB (K : PySem.W.Frag) (C : Addr) (ff : Fn) : Nat → EqvB
  | 0 => LfV K C ff
  | n + 1 => TupB K (DB K C ff n)
theorem mon_DB {K : PySem.W.Frag} : ∀ n, MonB (DB K C ff n)
  | 0 => mon_lf
  | n + 1 => mon_tupB (mon_DB n)
theorem rfl_DB : ∀ n, RflB X (DB X.K C ff n)
  | 0 => rfl_lf
  | n + 1 => rfl_tupB (rfl_DB n)
theorem ref_DB {K : PySem.W.Frag} : ∀ n, ∀ x y b H, DB K C ff n x y b H → ∃ a c, x = .ref a ∧ y = .ref c
  | 0, x, y, b, H, ⟨F, d, e, _, r1, r2, _, _, _, _, h1, h2, _⟩ => by
    subst h1 h2
    obtain ⟨a, _, _, rfl, _⟩ := r1
    obtain ⟨c, _, _, rfl, _⟩ := r2
    exact ⟨a, c, rfl, rfl⟩
  | n + 1, x, y, b, H, ⟨a, c, _, _, _, hx, hy, _⟩ => ⟨a, c, hx, hy⟩
theorem rc_DB (O : CmpIn X.K C f "__eq__") (hn : okCmp X.K C (.obj C [] [])) (Fk : FnG X.prog X.w X.K X.mg X.base (L2.CX X.prog X.w) k f fd ps (spF X.K 2 ff)) (hb : Binds X.K fd ps []) (hl : ∀ as R Y, ff as R Y → as.length = 2) : ∀ n, RcB X (k + n) (DB X.K C ff n)
  | 0 => rc_lf O hn Fk hb hl
  | n + 1 => rc_tup (mon_DB n) ((rc_DB O hn Fk hb hl n).eqB (rfl_DB n) (ref_DB n))
theorem reps_get {K : PySem.W.Frag} {F : Hp} : ∀ {ds : List D} {vs : List V} {i : Nat} {v : V}, Reps K F ds vs → vs[i]? = some v → ∃ d, ds[i]? = some d ∧ Rep K F d v
  | [], vs, i, v, h, e => by rw [show vs = [] from h] at e; cases e
  | d :: ds, vs, i, v, h, e => by
    obtain ⟨w, r, rfl, h1, h2⟩ := h
    cases i with
    | zero => cases e; exact ⟨d, rfl, h1⟩
    | succ i => exact reps_get (i := i) h2 e
theorem eqN_DB {K : PySem.W.Frag} {F H : Hp} (sF : Same F H) : ∀ (n : Nat) {d e : D} {b : Bool} {x y : V}, EqN (LfR C ff) n d e b → Rep K F d x → Rep K F e y → DB K C ff n x y b H
  | 0, d, e, b, x, y, h, r1, r2 => ⟨F, d, e, sF, r1, r2, h⟩
  | n + 1, d, e, b, x, y, ⟨xs, ys, bs, h1, h2, h3, h4, h5⟩, r1, r2 => by
    subst h1 h2
    obtain ⟨a, vs, rfl, q1, q2⟩ := r1
    obtain ⟨c, ws, rfl, q3, q4⟩ := r2
    refine ⟨a, c, vs, ws, bs, rfl, rfl, seqT sF q1, seqT sF q3, by rw [h3, q2.length, q4.length], fun i x y k a1 a2 a3 => ?_, by rw [h5, q2.length, q4.length]⟩
    obtain ⟨d', z1, z2⟩ := reps_get q2 a1
    obtain ⟨e', z3, z4⟩ := reps_get q4 a2
    exact eqN_DB sF n (h4 i d' e' k z1 z3 a3) z2 z4
/-- == of two tuples of such -/
def oEqT (C : Addr) (ff : Fn) : O2 := fun d e P => ∃ n b, n ≤ 8 ∧ EqN (LfR C ff) (n + 1) d e b ∧ P (.bl b)
theorem o_eqT (O : CmpIn X.K C f "__eq__") (hn : okCmp X.K C (.obj C [] [])) (Fk : FnG X.prog X.w X.K X.mg X.base (L2.CX X.prog X.w) k f fd ps (spF X.K 2 ff)) (hr : RmG (k + 9) X.A) (hb : Binds X.K fd ps []) (hl : ∀ as R Y, ff as R Y → as.length = 2) : OpR X (compareOp .Eq) (Op2 X.K (oEqT C ff)) := by
  intro pins s σ H x y u v Q I rx ry h
  obtain ⟨F, d, e, P, sF, r1, r2, ⟨n, b, hn8, hq, hP⟩, kk⟩ := h
  show wpAny (model X.prog X.w) X.A (richCompare .Eq u v) (EP X pins σ Q) X.xe s
  have g := rc_DB O hn Fk hb hl (n + 1)
  refine wpAny_mono (g X.A pins s σ H x y u v b (hr.mono (by omega)) rfl I rx ry (eqN_DB sF (n + 1) hq r1 r2)) (fun r s' z => ?_) fun _ _ x => x
  obtain ⟨hr', H', I', e⟩ := z
  subst hr'
  exact ⟨.bl b, H', I', rfl, kk (.bl b) hP _ F H' ⟨Same.refl _, sF.trans e, e, fun a o h => .inl h⟩ rfl⟩
end
end L3

set_option Elab.async false
set_option linter.all false
set_option maxRecDepth 100000
set_option maxHeartbeats 1000000
/-! slices of tuples; range of two -/
namespace L3
open PySem L2
section
variable {X : Cx} {K : PySem.W.Frag} {W : WX} {a b : Expr} {tg : Expr} {pos p p2 : Pos}
def wSlT (w : Wt) (l u : Wo) : Wt := fun δ Q Y => w δ (fun d δ1 => ∃ xs, d = .tup xs ∧ l δ1 (fun lo δ2 => u δ2 (fun hi δ3 => Q (.tup (cutD xs lo hi)) δ3) Y) Y) Y
theorem x_slT {e : Expr} {lo hi : Option Expr} {w : Wt} {l u : Wo} (h : PE X e (Tr X.K W w)) (h1 : PO X lo (TrO X.K W l)) (h2 : PO X hi (TrO X.K W u)) : PE X (.Subscript e (.Slice lo hi none p2) pos) (Tr X.K W (wSlT w l u)) := pe_imp (L2.pe_slice sl_tupA h h1 h2) fun σ H Q h => by
  obtain ⟨b, δ, F, Po, Px, wf, r, q, k, kx⟩ := h
  refine ⟨b, δ, F, _, _, wf, r, q, fun d δ1 q1 x F1 H1 wf1 s1 r1 rx => ?_, kx⟩
  obtain ⟨xs, rfl, q2⟩ := q1
  refine ⟨b, δ1, F1, _, _, wf1, r1, q2, fun lo δ2 q3 F2 H2 wf2 s2 r2 => ?_, fun er δ' hx => Xp.back s1 (kx er δ' hx)⟩
  refine ⟨b, δ2, F2, _, _, wf2, r2, q3, fun hi δ3 q4 F3 H3 wf3 s3 r3 => ?_, fun er δ' hx => Xp.back (s1.trans s2) (kx er δ' hx)⟩
  obtain ⟨a, vs, rfl, h1, rr⟩ := rx.mono (s2.trans s3)
  refine ⟨a, vs, rfl, seqT wf3.fh h1, fun hw => ?_, fun _ p np => ?_⟩
  · have e : cutD xs lo hi = xs := by
      rw [rr.length] at hw
      unfold cutD
      rw [hw.1, hw.2, List.drop_zero, Nat.sub_zero, List.take_length]
    rw [e] at q4
    exact k _ δ3 q4 _ F3 _ wf3 ((s1.trans s2).trans s3) r3 ⟨a, vs, rfl, h1, rr⟩
  · have ex := Ext.new1 (o := .tup (cutV vs lo hi)) wf3.fh np
    have rc : Reps X.K F3 (cutD xs lo hi) (cutV vs lo hi) := by
      unfold cutD cutV
      rw [rr.length]
      exact reps_take _ (reps_drop _ rr)
    exact k _ δ3 q4 _ _ _ (wf3.ext ex) (((s1.trans s2).trans s3).trans ex.ff) (r3.ext ex) ⟨p, _, rfl, .inl (.inl upd_same), rc.mono ex.ff⟩
def wRng2 (u : Wa) : Wi := fun δ Q Y => u δ (fun as δ1 => ∃ i j, trees as = some [.int i, .int j] ∧ -(2 ^ 62) ≤ i ∧ i < 2 ^ 62 ∧ -(2 ^ 62) ≤ j ∧ j < 2 ^ 62 ∧ Q (rangeD i (j - i).toNat) δ1) Y
theorem xi_rng2 {u : Wa} (ha : PA X [a, b] (TrA X.K W u)) (hm : X.mg "range" = none) (hg : Gl X "range" := by rfl) (hs : starEach [a, b] X.env = [(false, eval a X.env), (false, eval b X.env)] := by rfl) (hs2 : starEach [b] X.env = [(false, eval b X.env)] := by rfl) {p1 : Pos} : PI X tg (.Call (.Name "range" p1) [a, b] [] pos) (TrI X.K W (wRng2 u)) := pi_imp (pi_range2 hg hm ha (hs := hs) (hs2 := hs2)) fun σ H R h => by
  obtain ⟨b, δ, F, Po, Px, wf, r, q, k, kx⟩ := h
  refine ⟨b, δ, F, _, _, wf, r, q, fun as δ1 q1 vs F1 H1 wf1 s1 r1 ra => ?_, kx⟩
  obtain ⟨i, j, hj, h1, h2, h3, h4, q2⟩ := q1
  have rr := reps_of ra hj
  obtain ⟨v, r', rfl, rv, rr2⟩ := rr
  obtain ⟨v2, rfl, rv2⟩ := reps1 rr2
  exact ⟨i, j, by rw [show v = _ from rv, show v2 = _ from rv2], ⟨h1, h2, h3, h4⟩, k _ δ1 q2 _ F1 H1 wf1 s1 r1 itD_rng⟩
end
end L3

set_option Elab.async false
set_option linter.all false
/-! a, b, .. = a list -/
namespace L3
open PySem L2
section
variable {X : Cx} {W : WX} {es : List Expr} {pos : Pos}
def wgLst (n : Nat) (w : Wgs) : Wg := fun d δ Q => ∃ ds, d = .lst ds ∧ ds.length = n ∧ w ds δ Q
theorem xg_lst {w : Wgs} {n k0 : Nat} {ts : List Nat} (hc : X.calm = true) (h : PGs X es (TrGs X.K ts w)) (hn : (assignEach es X.env).length = n := by rfl) (hst : (assignEach es X.env).findIdx? (·.1) = none := by rfl) : PG X (.Tuple es k0 pos) (TrG X.K ts (wgLst n w)) := pg_imp (pg_lst hc h hn hst) fun v σ H Q h => by
  obtain ⟨b, δ, F, d, Po, wf, r, rv, ⟨ds, rfl, hl, q⟩, k⟩ := h
  obtain ⟨a, vs, rfl, h1, h2⟩ := rv
  exact ⟨a, vs, rfl, Same.seq wf.fh h1, by rw [h2.length]; exact hl, b, δ, F, ds, _, wf, r, h2, q, k⟩
end
end L3

set_option Elab.async false
set_option linter.all false
set_option maxRecDepth 100000
/-! x.clear() on an own list -/
namespace L3
open PySem L2 PySem.Spec PyProof.Rows
def rClear : V → List V → Hp → VK → Prop := fun x vs H Q => ∃ l xs, x = .ref l ∧ vs = [] ∧ H l = some (.lst xs) ∧ Q .non (upd H l (.lst []))
theorem mt_clear {X : Cx} : MtM X "list.clear" rClear := by
  intro pins s σ H x vs v us Q I rx rv h
  obtain ⟨l, xs, rfl, rfl, hH, q⟩ := h
  cases rx
  have hus := rv.zero
  subst hus
  obtain ⟨z, its, n, r, hl, e⟩ := I.lstM hH
  refine call_meets F.slot_list_clear ⟨_, e, rfl⟩ F.entry_list_clear (F.args_list_clear_1 _) (AutoSeq1.list_clear_list_0 l its.toArray n (by rw [List.size_toArray]; omega)) ⟨e, ?_⟩
  exact ⟨.non, _, I.lset (its' := []) hH e rfl .nil (Nat.zero_le _), rfl, q⟩
section
variable {X : Cx} {W : WX} {x : Str} {p apos cpos : Pos}
def wClr (i : Nat) : Wt := fun δ Q _ => ∃ k xs, δ[i]? = some (.ol k xs) ∧ Q .non (δ.set i (.ol k []))
theorem x_clr (i : Nat) (hN : X.N[i]? = some x := by rfl) (hv : Vis X.env.scope x := by first | exact Or.inl rfl | exact Or.inr (Or.inl rfl) | exact Or.inr (Or.inr rfl)) (hd : (x == ("__debug__" : Str)) = false := by decide)
    (hcd : (x == ("__classdict__" : Str)) = false := by decide)
    (hbase : attributeBase (.Name x p) "clear" X.env (eval (.Name x p) X.env) = eval (.Name x p) X.env := by rfl) (hline : (apos.endLine == cpos.line) = true := by rfl) :
    PE X (.Call (.Attribute (.Name x p) "clear" apos) [] [] cpos) (Tr X.K W (wClr i)) :=
  pe_imp (pe_bm0 PySem.F.plainAttrs_list PySem.F.slot_list_clear PySem.F.type_list_clear (r := rClear) mt_clear (pe_var hN hv hd hcd) hbase hline) fun σ H Q h => by
    obtain ⟨bb, δ, F, Po, Px, wf, r, ⟨k0, ys, hi, q⟩, k, kx⟩ := h
    obtain ⟨p, hp, ⟨nF, vs, hv0, rr⟩, _⟩ := r.own hi rfl
    refine ⟨_, hp, .inl ⟨rfl, _, .inl (.inl hv0)⟩, ?_⟩
    obtain ⟨w1, w2⟩ := own_upd (s' := .ol k0 []) (o' := .lst []) wf r hi rfl rfl rfl hp hv0 ⟨nF, _, upd_same, rfl⟩
    exact ⟨p, _, rfl, rfl, hv0, k _ _ q _ F _ w1 (Same.refl _) w2 rfl⟩
theorem r_clr {δ : List S} {i : Nat} {k : Bool} {xs : List D} {QD : D → List S → Prop} {Y : Er → List S → Prop} (h1 : δ[i]? = some (.ol k xs)) (q : QD .non (δ.set i (.ol k []))) : wClr i δ QD Y := ⟨k, xs, h1, q⟩
end
end L3

set_option Elab.async false
set_option linter.all false
set_option maxRecDepth 100000
set_option maxHeartbeats 1000000
/-! != of tuples whose items have an own ==: both answers -/
namespace GB
open PySem PySem.SeqAt
open AutoSeq1 (wpAny_loadPart')
open MeetsSeq MeetsSeq2 MeetsSeq3 SeqRoads2
section
variable {prog : Program} {w : World} {A : Around} {R : Result → Shared → Prop}
theorem tuple_neB (l b : Addr) (items items2 : Array Value) (n n2 : Nat) (dd dd2 : Option Addr) (sl sl2 : Array (Option Value)) (e : Nat → Bool) (I : Nat → Shared → Prop)
    (turn : ∀ i (h1 : i < items.size) (h2 : i < items2.size) s, I i s → wpAny (model prog w) A.in1 (eqBool items[i] items2[i]) (fun r s' => r = e i ∧ I (i + 1) s') (fun e s' => R (.error e) s') s)
    (fin : ∀ i s, I i s → R (.ok (.ret (.bool (!((List.range (min items.size items2.size)).all e && items.size == items2.size))))) s) {s : Shared} (hl1 : s.heap.get? l = some { cls := .type "tuple", dict := dd, data := .seq items n, slots := sl }) (hb1 : s.heap.get? b = some { cls := .type "tuple", dict := dd2, data := .seq items2 n2, slots := sl2 }) (h : I 0 s) :
    wpAny (model prog w) A.in1 (Builtin.«tuple.__ne__» ⟨[.ref l, .ref b], []⟩) (GQ.FinOf prog w A R) (fun e s' => R (.error e) s') s := by
  have f2 := AutoSeq1.sub_tuple_tuple
  have hZ : (items.toList.zip items2.toList).length = min items.size items2.size := by simp
  have h0 := h
  obtain ⟨hp, g, d, tk, os⟩ := s
  wp_walk using wpAny_loadPart' hl1, wpAny_loadPart' hb1, wpAny_forIn_list _ (fun rest b s' => b.1 = none ∧ ∃ i, rest = (items.toList.zip items2.toList).drop i ∧ I i s' ∧ (List.range (min items.size items2.size)).all e = ((List.range (min items.size items2.size)).drop i).all e) _
  case turn =>
    rintro ⟨y, x⟩ rest b s' ⟨hb', i, hz, hI, hall⟩
    have hlt : i < (items.toList.zip items2.toList).length := by
      rcases Nat.lt_or_ge i (items.toList.zip items2.toList).length with h' | h'
      · exact h'
      · rw [List.drop_of_length_le h'] at hz; cases hz
    have hm : i < min items.size items2.size := hZ ▸ hlt
    have h1 : i < items.size := Nat.lt_of_lt_of_le hm (Nat.min_le_left _ _)
    have h2 : i < items2.size := Nat.lt_of_lt_of_le hm (Nat.min_le_right _ _)
    rw [List.drop_eq_getElem_cons hlt] at hz
    injection hz with hyx hrest
    have hy : y = items[i] := by have := congrArg Prod.fst hyx; simpa using this
    have hx : x = items2[i] := by have := congrArg Prod.snd hyx; simpa using this
    subst hy hx
    have hd : (List.range (min items.size items2.size)).drop i = i :: (List.range (min items.size items2.size)).drop (i + 1) := by simp [List.drop_eq_getElem_cons, hm]
    rw [hd, List.all_cons] at hall
    refine wpAny_bind (wpAny_mono (turn i h1 h2 s' hI) (fun r s2 q2 => ?_) fun _ _ x => x)
    obtain ⟨hr, q2⟩ := q2
    subst hr
    cases hy : e i with
    | true =>
      rw [hy, Bool.true_and] at hall
      wp_walk
      exact ⟨rfl, i + 1, hrest, q2, hall⟩
    | false =>
      rw [hy, Bool.false_and] at hall
      have hR := fin _ _ q2
      rw [hall, Bool.false_and] at hR
      wp_walk
      simpa using hR
  case fin =>
    rintro ⟨b1, b2⟩ s' ⟨hb', i, hz, hI, hall⟩
    simp only at hb'
    subst hb'
    have hge : min items.size items2.size ≤ i := by
      rcases Nat.lt_or_ge i (items.toList.zip items2.toList).length with h' | h'
      · rw [List.drop_eq_getElem_cons h'] at hz; cases hz
      · exact hZ ▸ h'
    rw [List.drop_of_length_le (by simpa using hge)] at hall
    have hR := fin _ _ hI
    rw [hall] at hR
    wp_walk
    simpa [Builtin.Tuple.tupleCompareSizes, bne] using hR
  case h =>
    exact ⟨rfl, 0, rfl, h0, rfl⟩
end
section
variable {prog : Program} {w : World} {A : Around} {E : Value → Shared → Prop} {s : Shared}
theorem rn_tupB {l b : Addr} {items items2 : Array Value} {e : Nat → Bool} {Q : Value → Shared → Prop} (hu : A.units < cLine) (I : Nat → Shared → Prop)
    (hl : s.heap.IsTuple l items) (hb : s.heap.IsTuple b items2)
    (turn : ∀ i (h1 : i < items.size) (h2 : i < items2.size) s, I i s → wpAny (model prog w) A.in1 (eqBool items[i] items2[i]) (fun r s' => r = e i ∧ I (i + 1) s') E s)
    (fin : ∀ i s, I i s → Q (.bool (!((List.range (min items.size items2.size)).all e && items.size == items2.size))) s) (h : I 0 s) : wpAny (model prog w) A (richCompare .NotEq (.ref l) (.ref b)) Q E s := by
  obtain ⟨⟨cls, dd, data, sl⟩, ho, hc, n, hd⟩ := id hl
  obtain ⟨⟨cls2, dd2, data2, sl2⟩, ho2, hc2, n2, hd2⟩ := id hb
  simp only at hc hd hc2 hd2
  subst hc hd hc2 hd2
  refine wpAny_richCompare_same_room (op := .NotEq) ⟨_, ho, rfl⟩ ⟨_, ho2, rfl⟩ F.slot_tuple_ne (GQ.call_here F.slot_tuple_ne ⟨_, ho, rfl⟩ F.entry_tuple_ne (F.args_tuple_ne_2 _ _) ?_) hu
  exact tuple_neB (R := wants (fun v s' => v ≠ .notImplemented ∧ Q v s') E) l b items items2 n n2 dd dd2 sl sl2 e I turn (fun i s' q => ⟨(fun x => nomatch x), fin i s' q⟩) ho ho2 h
end
end GB
namespace L3
open PySem L2
section
variable {X : Cx} {k n : Nat} {C f : Addr} {fd : FuncData} {ps : List Str} {ff : Fn}
def RnB (X : Cx) (n : Nat) (D : EqvB) : Prop :=
  ∀ (A : Around) (pins : List (Addr × Obj)) (s : Shared) (σ : L2.St) (H : Hp) (x y : V) (u v : Value) (b : Bool), RmG n A → A.frames = X.A.frames → Inv X pins σ H s → RelV x u → RelV y v → D x y b H →
    wpAny (model X.prog X.w) A (richCompare .NotEq u v) (fun r s' => r = .bool (!b) ∧ ∃ H', Inv X pins σ H' s' ∧ Same H H') X.xe s
theorem rn_tup {D : EqvB} (hD : MonB D) (h : EqB X n D) : RnB X (n + 1) (TupB X.K D) := by
  intro A pins s σ H x y u v b hA hfr I rx ry d
  obtain ⟨a, c, xs, ys, bs, rfl, rfl, h1, h2, h3, h4, rfl⟩ := d
  cases (show u = Value.ref a from rx)
  cases (show v = Value.ref c from ry)
  obtain ⟨its, r1, e1, _⟩ := I.tuple h1
  obtain ⟨its2, r2, e2, _⟩ := I.tuple h2
  have l1 := r1.length
  have l2 := r2.length
  have hfin : ((List.range (min its.toArray.size its2.toArray.size)).all (fun i => bs.getD i true) && its.toArray.size == its2.toArray.size) = (bs.all id && decide (xs.length = ys.length)) := by
    have z1 : its.toArray.size = xs.length := by rw [List.size_toArray, l1]
    have z2 : its2.toArray.size = ys.length := by rw [List.size_toArray, l2]
    rw [z1, z2]
    have e3 : (List.range (min xs.length ys.length)).all (fun i => bs.getD i true) = bs.all id := by
      rw [← h3, Bool.eq_iff_iff, List.all_eq_true, List.all_eq_true]
      constructor
      · intro q k hk
        obtain ⟨i, hi, e⟩ := List.getElem_of_mem hk
        have := q i (List.mem_range.mpr hi)
        rw [List.getD_eq_getElem?_getD, List.getElem?_eq_getElem hi] at this
        rw [← e]; exact this
      · intro q i hi
        have hi := List.mem_range.mp hi
        rw [List.getD_eq_getElem?_getD, List.getElem?_eq_getElem hi]
        exact q _ (List.getElem_mem hi)
    rw [e3]
    congr 1
  refine GB.rn_tupB (e := fun i => bs.getD i true) hA.r.units0 (fun _ s' => ∃ H', Inv X pins σ H' s' ∧ Same H H') e1 e2 (fun i k1 k2 s' ⟨H1, I1, x1⟩ => ?_) (fun i s' q => ⟨congrArg (fun z => Value.bool (!z)) hfin, q⟩) ⟨H, I, Same.refl _⟩
  have j1 : i < its.length := by simpa using k1
  have j2 : i < its2.length := by simpa using k2
  have m1 : i < xs.length := by omega
  have m2 : i < ys.length := by omega
  have m3 : i < bs.length := by omega
  obtain ⟨u, hu, ru⟩ := r1.get (List.getElem?_eq_getElem m1)
  obtain ⟨v, hv, rv⟩ := r2.get (List.getElem?_eq_getElem m2)
  have g1 : its.toArray[i] = u := by
    have : its[i]? = some its[i] := List.getElem?_eq_getElem j1
    rw [this] at hu
    have := Option.some.inj hu
    simpa using this
  have g2 : its2.toArray[i] = v := by
    have : its2[i]? = some its2[i] := List.getElem?_eq_getElem j2
    rw [this] at hv
    have := Option.some.inj hv
    simpa using this
  rw [g1, g2]
  have hb : bs.getD i true = bs[i] := by rw [List.getD_eq_getElem?_getD, List.getElem?_eq_getElem m3]; rfl
  rw [hb]
  refine wpAny_mono (h A.in1 pins s' σ H1 xs[i] ys[i] u v bs[i] hA.in1 hfr I1 ru rv (hD _ _ _ _ _ x1 (h4 i _ _ _ (List.getElem?_eq_getElem m1) (List.getElem?_eq_getElem m2) (List.getElem?_eq_getElem m3)))) (fun r s2 q => ?_) fun _ _ x => x
  obtain ⟨hr, H2, I2, x2⟩ := q
  exact ⟨hr, H2, I2, x1.trans x2⟩
/-- != of two tuples of such -/
def oNeT (C : Addr) (ff : Fn) : O2 := fun d e P => ∃ n b, n ≤ 8 ∧ EqN (LfR C ff) (n + 1) d e b ∧ P (.bl (!b))
theorem o_neT (O : CmpIn X.K C f "__eq__") (hn : okCmp X.K C (.obj C [] [])) (Fk : FnG X.prog X.w X.K X.mg X.base (L2.CX X.prog X.w) k f fd ps (spF X.K 2 ff)) (hr : RmG (k + 9) X.A) (hb : Binds X.K fd ps []) (hl : ∀ as R Y, ff as R Y → as.length = 2) : OpR X (compareOp .NotEq) (Op2 X.K (oNeT C ff)) := by
  intro pins s σ H x y u v Q I rx ry h
  obtain ⟨F, d, e, P, sF, r1, r2, ⟨n, b, hn8, hq, hP⟩, kk⟩ := h
  show wpAny (model X.prog X.w) X.A (richCompare .NotEq u v) (EP X pins σ Q) X.xe s
  have g := rn_tup (mon_DB n) ((rc_DB O hn Fk hb hl n).eqB (rfl_DB n) (ref_DB n))
  refine wpAny_mono (g X.A pins s σ H x y u v b (hr.mono (by omega)) rfl I rx ry (eqN_DB sF (n + 1) hq r1 r2)) (fun r s' z => ?_) fun _ _ x => x
  obtain ⟨hr', H', I', e⟩ := z
  subst hr'
  exact ⟨.bl (!b), H', I', rfl, kk (.bl (!b)) hP _ F H' ⟨Same.refl _, sF.trans e, e, fun a o h => .inl h⟩ rfl⟩
end
end L3

set_option Elab.async false
set_option linter.all false
set_option maxRecDepth 100000
/-! f(e, .., k = v, ..): positions, then keywords -/
namespace L3
open PySem L2
def tCallM (sp : Sp) (gV : List V → List V → List V) (n m : Nat) (E : XK) (t tk : TA) : TE := fun σ H Q => t σ H fun vs H1 => vs.length = n ∧ tk σ H1 fun zs H2 => zs.length = m ∧ sp (gV vs zs) H2 Q E
section
variable {X : Cx} {CX : CXT} {f : Addr} {fd : FuncData} {ps ks : List Str} {sp : Sp} {k n : Nat} {x : Str} {p pos : Pos} {e : Expr} {es : List Expr} {kws : List Keyword} {t tk : TA} {E1 : XK} {gg : List Value → List Value → List Value} {gV : List V → List V → List V}
theorem pe_callM (F : FnG X.prog X.w X.K X.mg X.base CX k f fd ps sp) (hr : RmG k X.A) (hg : Gl X x) (hm : X.mg x = some (.ref f)) (hk : PySem.W.keepIn X.K (.ref f) = true) (hb : KBn X.K fd ps n ks gg gV) (hx : Passes CX X E1) (ha : PA X (e :: es) t) (hkw : PK X kws tk)
    (hall : (backToKw pos (keywordEach kws X.env)).all (·.1.isSome) = true := by rfl) (hks : (backToKw pos (keywordEach kws X.env)).filterMap (·.1) = ks := by rfl) (hdb : (x == ("__debug__" : Str)) = false := by decide)
    (he : starEach (e :: es) X.env = (false, eval e X.env) :: starEach es X.env := by rfl)
    (hpl : ((backTo pos (starEach (e :: es) X.env)).any (·.1) || (backToKw pos (keywordEach kws X.env)).any (·.1.isNone)) = false := by rfl) : PE X (.Call (.Name x p) (e :: es) kws pos) (tCallM sp gV n ks.length E1 t tk) := ⟨fun pins s σ H Q I h => by
  refine wpAny_Call_Name_kw (ld_glob I hg hm ?_ hdb)
  refine PySem.W.callWith_KW (h₀ := X.base) I.ok.mod.kin hk hall (thn (ha.run pos pins s σ H _ I h) ?_) hpl he
  rintro us s1 ⟨vs, H1, I1, r, hn, q⟩
  refine thn (hkw.run pos pins s1 σ H1 _ I1 q) ?_
  rintro ws s2 ⟨zs, H2, I2, rz, l2, q2⟩
  refine ⟨I2.kIn, ?_⟩
  rw [hks]
  have r2 := hb.rel r rz
  refine wpAny_call (codeAny_mono (F.run X.A X.stack s2 H2 ⟨us, ks.zip ws⟩ (gg us ws) (gV vs zs) Q E1 hr I2.env0 (hb.to s2 us ws I2.kIn (r.length.symm.trans hn) (rz.length.symm.trans l2)) r2 q2) ?_)
  rintro (e | fl) s' hq
  · exact hx pins σ H2 s2 e s' I2 hq
  · cases fl <;> first | exact I2.after hq | exact False.elim hq⟩
end
section
variable {X : Cx} {K : PySem.W.Frag} {W : WX} {f : Addr} {fd : FuncData} {ps ks : List Str} {ff : Fn} {k n j : Nat} {x : Str} {p pos : Pos} {e : Expr} {es : List Expr} {kws : List Keyword}
/-- j positions, m keywords; h puts the keywords' values into the parameters' order -/
def wCallM (f : Fn) (h : Perm) (j m : Nat) (ua uk : Wa) : Wt := fun δ Q Y => ua δ (fun as δ1 => ∃ ds, trees as = some ds ∧ ds.length = j ∧ uk δ1 (fun bs δ2 => ∃ zs, trees bs = some zs ∧ zs.length = m ∧ f ((ds ++ h zs).map S.v) (fun r _ => Q (rvD r) δ2) (fun _ _ => False)) Y) Y
theorem tr_callM {f : Fn} {h : Perm} {m n j : Nat} {ua uk : Wa} {σ : L2.St} {H : Hp} {Q : VK} (ok : PermOk m h) (hf : ∀ as R Y, f as R Y → as.length = n) (hh : Tr K W (wCallM f h j m ua uk) σ H Q) :
    tCallM (spF K n f) (fun vs zs => vs ++ h zs) j m E0 (TrA K W ua) (TrA K W uk) σ H Q := by
  obtain ⟨b, δ, F, Po, Px, wf, r, q, k, kx⟩ := hh
  refine ⟨b, δ, F, _, _, wf, r, q, fun as δ1 q1 vs F1 H1 wf1 s1 r1 ra => ?_, kx⟩
  obtain ⟨ds, hds, hn, q2⟩ := q1
  have ra1 := reps_of ra hds
  refine ⟨by rw [ra1.length, hn], ⟨b, δ1, F1, _, _, wf1, r1, q2, fun bs δ2 q3 zs F2 H2 wf2 s2 r2 rz => ?_, fun er δ' hx => Xp.back s1 (kx er δ' hx)⟩⟩
  obtain ⟨es, hes, hm, q4⟩ := q3
  have rz1 := reps_of rz hes
  have rr := (ra1.mono s2).append (ok.reps rz1)
  have hn2 : (vs ++ h zs).length = n := by
    have := hf _ _ _ q4
    rw [List.length_map] at this
    rw [rr.length, this]
  refine ⟨by rw [rz1.length, hm], ?_⟩
  show spF K n f (vs ++ h zs) H2 Q E0
  refine sp_call0 wf2.fh rr hn2 q4 (fun rv fin q5 v F' H' w ok => ?_)
  obtain ⟨F3, a1, a2, a3, a4, _⟩ := rv_tree wf2 r2 w (Same.refl _) (fun i x z => by cases z) ok
  exact k _ _ q5 v F3 H' a1 ((s1.trans s2).trans a2) a3 a4
theorem x_callM {h : Perm} {ua uk : Wa} (F : FnG X.prog X.w X.K X.mg X.base (L2.CX X.prog X.w) k f fd ps (spF X.K n ff)) (hr : RmG k X.A) (hm : X.mg x = some (.ref f)) (hk : PySem.W.keepIn X.K (.ref f) = true) (hb : KbP X.K fd ps j ks h) (ok : PermOk ks.length h)
    (hf : ∀ as R Y, ff as R Y → as.length = n) (ha : PA X (e :: es) (TrA X.K W ua)) (hkw : PK X kws (TrA X.K W uk)) (hg : Gl X x := by rfl)
    (hall : (backToKw pos (keywordEach kws X.env)).all (·.1.isSome) = true := by rfl) (hks : (backToKw pos (keywordEach kws X.env)).filterMap (·.1) = ks := by rfl) (hdb : (x == ("__debug__" : Str)) = false := by decide)
    (he : starEach (e :: es) X.env = (false, eval e X.env) :: starEach es X.env := by rfl)
    (hpl : ((backTo pos (starEach (e :: es) X.env)).any (·.1) || (backToKw pos (keywordEach kws X.env)).any (·.1.isNone)) = false := by rfl) : PE X (.Call (.Name x p) (e :: es) kws pos) (Tr X.K W (wCallM ff h j ks.length ua uk)) :=
  pe_imp (pe_callM F hr hg hm hk hb passL ha hkw hall hks hdb he hpl) fun _ _ _ => tr_callM ok hf
end
/-! any order -/
def pAt (ix : List Nat) : Perm := fun l => ix.filterMap fun i => l[i]?
theorem pAt_ok {m : Nat} (ix : List Nat) : PermOk m (pAt ix) := ⟨fun {vs us} h => by
    unfold pAt
    induction ix with
    | nil => exact .nil
    | cons i ix ih =>
      rw [List.filterMap_cons, List.filterMap_cons]
      cases e : vs[i]? with
      | none =>
        have : us[i]? = none := by
          rw [List.getElem?_eq_none_iff] at e ⊢
          rw [← h.length]; exact e
        rw [this]; exact ih
      | some v =>
        obtain ⟨u, hu, r⟩ := h.get e
        rw [hu]; exact .cons r ih, fun {K F ds vs} h => by
    unfold pAt
    induction ix with
    | nil => rfl
    | cons i ix ih =>
      rw [List.filterMap_cons, List.filterMap_cons]
      cases e : ds[i]? with
      | none =>
        have : vs[i]? = none := by
          rw [List.getElem?_eq_none_iff] at e ⊢
          rw [h.length]; exact e
        rw [this]; exact ih
      | some d =>
        obtain ⟨v, hv, r⟩ := h.get e
        rw [hv]; exact Reps.cons r ih⟩
theorem r_callM {δ : List S} {f : Fn} {h : Perm} {j m : Nat} {ua uk : Wa} {QD : D → List S → Prop} {Y : Er → List S → Prop} (q : ua δ (fun as δ1 => ∃ ds, trees as = some ds ∧ ds.length = j ∧ uk δ1 (fun bs δ2 => ∃ zs, trees bs = some zs ∧ zs.length = m ∧ f ((ds ++ h zs).map S.v) (fun r _ => QD (rvD r) δ2) (fun _ _ => False)) Y) Y) : wCallM f h j m ua uk δ QD Y := q
end L3

set_option Elab.async false
set_option linter.all false
set_option maxRecDepth 100000
set_option maxHeartbeats 1000000
/-! == and != of tuples whose items are numbers, texts, None, instances with an own ==, or such tuples -/
namespace L3
open PySem L2 PySem.SeqAt
section
variable {X : Cx} {k n : Nat} {C f : Addr} {fd : FuncData} {ps : List Str} {ff : Fn}
/-- atoms of one kind -/
def AtR : D → D → Bool → Prop := fun d e b => (∃ i j : Int, d = .int i ∧ e = .int j ∧ b = (i == j)) ∨ (∃ x y : Str, d = .str x ∧ e = .str y ∧ b = (x == y)) ∨ (∃ p q : Bool, d = .bl p ∧ e = .bl q ∧ b = (p == q)) ∨ (d = .non ∧ e = .non ∧ b = true)
def AtV : EqvB := fun x y b _ => (∃ i j : Int, x = .int i ∧ y = .int j ∧ b = (i == j)) ∨ (∃ s t : Str, x = .str s ∧ y = .str t ∧ b = (s == t)) ∨ (∃ p q : Bool, x = .bl p ∧ y = .bl q ∧ b = (p == q)) ∨ (x = .non ∧ y = .non ∧ b = true)
theorem mon_at : MonB AtV := fun x y b H H' _ h => h
theorem rfl_at : RflB X AtV := fun pins s σ H x b I h => by
  rcases h with ⟨i, j, rfl, e, rfl⟩ | ⟨i, j, rfl, e, rfl⟩ | ⟨i, j, rfl, e, rfl⟩ | ⟨rfl, _, rfl⟩
  · cases e; simp
  · cases e; simp
  · cases e; simp
  · rfl
theorem eq_at : EqB X n AtV := by
  intro A pins s σ H x y u v b hA hfr I rx ry d
  rcases d with ⟨i, j, rfl, rfl, rfl⟩ | ⟨i, j, rfl, rfl, rfl⟩ | ⟨i, j, rfl, rfl, rfl⟩ | ⟨rfl, rfl, rfl⟩
  · obtain ⟨t, rfl⟩ := rx
    obtain ⟨t', rfl⟩ := ry
    exact EqAt.int_int i t j t' X.prog X.w X.xe _ ⟨rfl, H, I, Same.refl _⟩
  · obtain ⟨t, rfl⟩ := rx
    obtain ⟨t', rfl⟩ := ry
    exact EqAt.str_str i t j t' X.prog X.w X.xe _ ⟨rfl, H, I, Same.refl _⟩
  · cases (show u = Value.bool i from rx)
    cases (show v = Value.bool j from ry)
    exact EqAt.bool_bool i j X.prog X.w X.xe _ ⟨rfl, H, I, Same.refl _⟩
  · cases (show u = Value.none from rx)
    cases (show v = Value.none from ry)
    exact EqAt.same .none X.prog X.w X.xe _ ⟨rfl, H, I, Same.refl _⟩
def OrB (D D' : EqvB) : EqvB := fun x y b H => D x y b H ∨ D' x y b H
theorem mon_or {D D' : EqvB} (h : MonB D) (h' : MonB D') : MonB (OrB D D') := fun x y b H H' s q => q.elim (fun z => .inl (h _ _ _ _ _ s z)) fun z => .inr (h' _ _ _ _ _ s z)
theorem rfl_or {D D' : EqvB} (h : RflB X D) (h' : RflB X D') : RflB X (OrB D D') := fun pins s σ H x b I q => q.elim (h pins s σ H x b I) (h' pins s σ H x b I)
theorem eq_or {D D' : EqvB} (h : EqB X n D) (h' : EqB X n D') : EqB X n (OrB D D') := fun A pins s σ H x y u v b hA hfr I rx ry d => d.elim (h A pins s σ H x y u v b hA hfr I rx ry) (h' A pins s σ H x y u v b hA hfr I rx ry)
theorem EqB.mono {D : EqvB} {m : Nat} (h : EqB X n D) (q : n ≤ m) : EqB X m D := fun A pins s σ H x y u v b hA => h A pins s σ H x y u v b (hA.mono q)
def LM (K : PySem.W.Frag) (C : Addr) (ff : Fn) : EqvB := OrB (LfV K C ff) AtV
def DM (K : PySem.W.Frag) (C : Addr) (ff : Fn) : Nat → EqvB
  | 0 => LM K C ff
  | n + 1 => OrB (LM K C ff) (TupB K (DM K C ff n))
theorem mon_DM {K : PySem.W.Frag} : ∀ n, MonB (DM K C ff n)
  | 0 => mon_or mon_lf mon_at
  | n + 1 => mon_or (mon_or mon_lf mon_at) (mon_tupB (mon_DM n))
theorem rfl_DM : ∀ n, RflB X (DM X.K C ff n)
  | 0 => rfl_or rfl_lf rfl_at
  | n + 1 => rfl_or (rfl_or rfl_lf rfl_at) (rfl_tupB (rfl_DM n))
theorem ref_tup {K : PySem.W.Frag} {D : EqvB} : ∀ x y b H, TupB K D x y b H → ∃ a c, x = .ref a ∧ y = .ref c := fun x y b H ⟨a, c, _, _, _, hx, hy, _⟩ => ⟨a, c, hx, hy⟩
theorem eq_LM (O : CmpIn X.K C f "__eq__") (hn : okCmp X.K C (.obj C [] [])) (Fk : FnG X.prog X.w X.K X.mg X.base (L2.CX X.prog X.w) k f fd ps (spF X.K 2 ff)) (hb : Binds X.K fd ps []) (hl : ∀ as R Y, ff as R Y → as.length = 2) : EqB X k (LM X.K C ff) :=
  eq_or ((rc_lf O hn Fk hb hl).eqB rfl_lf (ref_DB (n := 0))) eq_at
theorem eq_DM (O : CmpIn X.K C f "__eq__") (hn : okCmp X.K C (.obj C [] [])) (Fk : FnG X.prog X.w X.K X.mg X.base (L2.CX X.prog X.w) k f fd ps (spF X.K 2 ff)) (hb : Binds X.K fd ps []) (hl : ∀ as R Y, ff as R Y → as.length = 2) : ∀ n, EqB X (k + n) (DM X.K C ff n)
  | 0 => eq_LM O hn Fk hb hl
  | n + 1 => eq_or ((eq_LM O hn Fk hb hl).mono (by omega)) ((rc_tup (mon_DM n) (eq_DM O hn Fk hb hl n)).eqB (rfl_tupB (rfl_DM n)) ref_tup)
/-- trees of tuples over such leaves -/
def EqM (C : Addr) (ff : Fn) : Nat → D → D → Bool → Prop
  | 0, d, e, b => LfR C ff d e b ∨ AtR d e b
  | n + 1, d, e, b => (LfR C ff d e b ∨ AtR d e b) ∨ ∃ (xs ys : List D) (bs : List Bool), d = .tup xs ∧ e = .tup ys ∧ bs.length = min xs.length ys.length ∧
      (∀ (i : Nat) (x y : D) (k : Bool), xs[i]? = some x → ys[i]? = some y → bs[i]? = some k → EqM C ff n x y k) ∧ b = (bs.all id && decide (xs.length = ys.length))
def TupM (C : Addr) (ff : Fn) (n : Nat) : D → D → Bool → Prop := fun d e b => ∃ (xs ys : List D) (bs : List Bool), d = .tup xs ∧ e = .tup ys ∧ bs.length = min xs.length ys.length ∧
      (∀ (i : Nat) (x y : D) (k : Bool), xs[i]? = some x → ys[i]? = some y → bs[i]? = some k → EqM C ff n x y k) ∧ b = (bs.all id && decide (xs.length = ys.length))
theorem at_V {K : PySem.W.Frag} {F H : Hp} {d e : D} {b : Bool} {x y : V} (h : AtR d e b) (r1 : Rep K F d x) (r2 : Rep K F e y) : AtV x y b H := by
  rcases h with ⟨i, j, rfl, rfl, hb⟩ | ⟨i, j, rfl, rfl, hb⟩ | ⟨i, j, rfl, rfl, hb⟩ | ⟨rfl, rfl, hb⟩
  · exact .inl ⟨i, j, r1, r2, hb⟩
  · exact .inr (.inl ⟨i, j, r1, r2, hb⟩)
  · exact .inr (.inr (.inl ⟨i, j, r1, r2, hb⟩))
  · exact .inr (.inr (.inr ⟨r1, r2, hb⟩))
mutual
theorem eqM_DM {K : PySem.W.Frag} {F H : Hp} (sF : Same F H) : ∀ (n : Nat) {d e : D} {b : Bool} {x y : V}, EqM C ff n d e b → Rep K F d x → Rep K F e y → DM K C ff n x y b H
  | 0, d, e, b, x, y, h, r1, r2 => h.elim (fun z => .inl ⟨F, d, e, sF, r1, r2, z⟩) fun z => .inr (at_V z r1 r2)
  | n + 1, d, e, b, x, y, h, r1, r2 => h.elim (fun h => .inl (h.elim (fun z => .inl ⟨F, d, e, sF, r1, r2, z⟩) fun z => .inr (at_V z r1 r2))) fun h => .inr (tupM_DM sF n h r1 r2)
theorem tupM_DM {K : PySem.W.Frag} {F H : Hp} (sF : Same F H) : ∀ (n : Nat) {d e : D} {b : Bool} {x y : V}, TupM C ff n d e b → Rep K F d x → Rep K F e y → TupB K (DM K C ff n) x y b H
  | n, d, e, b, x, y, ⟨xs, ys, bs, h1, h2, h3, h4, h5⟩, r1, r2 => by
    subst h1 h2
    obtain ⟨a, vs, rfl, q1, q2⟩ := r1
    obtain ⟨c, ws, rfl, q3, q4⟩ := r2
    refine ⟨a, c, vs, ws, bs, rfl, rfl, seqT sF q1, seqT sF q3, by rw [h3, q2.length, q4.length], fun i x y k a1 a2 a3 => ?_, by rw [h5, q2.length, q4.length]⟩
    obtain ⟨d', z1, z2⟩ := reps_get q2 a1
    obtain ⟨e', z3, z4⟩ := reps_get q4 a2
    exact eqM_DM sF n (h4 i d' e' k z1 z3 a3) z2 z4
end
def oEqM (neg : Bool) (C : Addr) (ff : Fn) : O2 := fun d e P => ∃ n b, n ≤ 8 ∧ TupM C ff n d e b ∧ P (.bl (if neg then !b else b))
theorem o_eqM (O : CmpIn X.K C f "__eq__") (hn : okCmp X.K C (.obj C [] [])) (Fk : FnG X.prog X.w X.K X.mg X.base (L2.CX X.prog X.w) k f fd ps (spF X.K 2 ff)) (hr : RmG (k + 9) X.A) (hb : Binds X.K fd ps []) (hl : ∀ as R Y, ff as R Y → as.length = 2) : OpR X (compareOp .Eq) (Op2 X.K (oEqM false C ff)) := by
  intro pins s σ H x y u v Q I rx ry h
  obtain ⟨F, d, e, P, sF, r1, r2, ⟨n, b, hn8, hq, hP⟩, kk⟩ := h
  show wpAny (model X.prog X.w) X.A (richCompare .Eq u v) (EP X pins σ Q) X.xe s
  have g := rc_tup (mon_DM n) (eq_DM O hn Fk hb hl n)
  refine wpAny_mono (g X.A pins s σ H x y u v b (hr.mono (by omega)) rfl I rx ry (tupM_DM sF n hq r1 r2)) (fun r s' z => ?_) fun _ _ x => x
  obtain ⟨hr', H', I', e⟩ := z
  subst hr'
  exact ⟨.bl b, H', I', rfl, kk (.bl b) hP _ F H' ⟨Same.refl _, sF.trans e, e, fun a o h => .inl h⟩ rfl⟩
theorem o_neM (O : CmpIn X.K C f "__eq__") (hn : okCmp X.K C (.obj C [] [])) (Fk : FnG X.prog X.w X.K X.mg X.base (L2.CX X.prog X.w) k f fd ps (spF X.K 2 ff)) (hr : RmG (k + 9) X.A) (hb : Binds X.K fd ps []) (hl : ∀ as R Y, ff as R Y → as.length = 2) : OpR X (compareOp .NotEq) (Op2 X.K (oEqM true C ff)) := by
  intro pins s σ H x y u v Q I rx ry h
  obtain ⟨F, d, e, P, sF, r1, r2, ⟨n, b, hn8, hq, hP⟩, kk⟩ := h
  show wpAny (model X.prog X.w) X.A (richCompare .NotEq u v) (EP X pins σ Q) X.xe s
  have g := rn_tup (mon_DM n) (eq_DM O hn Fk hb hl n)
  refine wpAny_mono (g X.A pins s σ H x y u v b (hr.mono (by omega)) rfl I rx ry (tupM_DM sF n hq r1 r2)) (fun r s' z => ?_) fun _ _ x => x
  obtain ⟨hr', H', I', e⟩ := z
  subst hr'
  exact ⟨.bl (!b), H', I', rfl, kk (.bl (!b)) hP _ F H' ⟨Same.refl _, sF.trans e, e, fun a o h => .inl h⟩ rfl⟩
end
end L3

set_option Elab.async false
set_option linter.all false
/-! a, b, c = e, e', e'', three names -/
namespace L3
open PySem L2
section
variable {X : Cx} {K : PySem.W.Frag} {W : WX} {a b c : Expr} {pos : Pos}
theorem reps3 {F : Hp} {d e f : D} {vs : List V} (r : Reps K F [d, e, f] vs) : ∃ u v w, vs = [u, v, w] ∧ Rep K F d u ∧ Rep K F e v ∧ Rep K F f w := by
  obtain ⟨u, r', rfl, h1, h2⟩ := r
  obtain ⟨v, w, rfl, h3, h4⟩ := reps2 h2
  exact ⟨u, v, w, rfl, h1, h3, h4⟩
def wPar3 (i j l : Nat) (u : Wa) : Ws := fun δ E => u δ (fun as δ1 => ∃ d d' d'', trees as = some [d, d', d''] ∧ E.nx (((δ1.set i (.v d)).set j (.v d')).set l (.v d''))) E.xx
theorem s_par3 {i j l : Nat} {x y z : Str} {u : Wa} {px py pz pt : Pos} {kt k2 pt2} (hc : X.calm = true) (hN : X.N.Nodup) (ha : PA X [a, b, c] (TrA K W u)) (hi : X.N[i]? = some x := by rfl) (hj : X.N[j]? = some y := by rfl) (hl : X.N[l]? = some z := by rfl) (hij : i ≠ j := by decide) (hil : i ≠ l := by decide) (hjl : j ≠ l := by decide)
    (hx : X.env.scope.names.lookup x = some .local := by rfl) (hy : X.env.scope.names.lookup y = some .local := by rfl) (hz : X.env.scope.names.lookup z = some .local := by rfl)
    (hw : swappedStores [.Tuple [.Name x px, .Name y py, .Name z pz] kt pt] (.Tuple [a, b, c] k2 pt2) X.env = pure (some [x, y, z]) := by rfl)
    (hs : swapsWithSole [.Tuple [.Name x px, .Name y py, .Name z pz] kt pt] (.Tuple [a, b, c] k2 pt2) pos.line X.env = pure false := by rfl) :
    PS X (.Assign [.Tuple [.Name x px, .Name y py, .Name z pz] kt pt] (.Tuple [a, b, c] k2 pt2) pos) (TrS K W (wPar3 i j l u)) := ps_imp (ps_par3 hc hN hi hj hl hij hil hjl hx hy hz ha hw hs) fun Dn σ H h => by
  obtain ⟨b, δ, F, E, wf, r, q, k1, k2, k3, k4, k5⟩ := h
  refine ⟨b, δ, F, _, _, wf, r, q, fun as δ1 q1 vs F1 H1 wf1 s1 r1 ra => ?_, k5_of k5⟩
  obtain ⟨d, d', d'', hd, q2⟩ := q1
  obtain ⟨v, w, w', rfl, ra1, ra2, ra3⟩ := reps3 (reps_of ra hd)
  exact ⟨v, w, w', rfl, k1 _ q2 _ F1 H1 wf1 s1 (((r1.setV ra1).setV ra2).setV ra3)⟩
theorem r_par3 {δ : List S} {i j l : Nat} {u : Wa} {E : DE} (h : u δ (fun as δ1 => ∃ d d' d'', trees as = some [d, d', d''] ∧ E.nx (((δ1.set i (.v d)).set j (.v d')).set l (.v d''))) E.xx) : wPar3 i j l u δ E := h
end
end L3

set_option Elab.async false
set_option linter.all false
set_option maxRecDepth 100000
set_option maxHeartbeats 1000000
/-! f(..).clear(); f(x, ..) where x is an own list that f only reads, and what it gives holds no part of it -/
namespace L3
open PySem L2 PySem.Spec PyProof.Rows
section
variable {X : Cx} {K : PySem.W.Frag} {W : WX} {e : Expr} {apos cpos : Pos}
theorem upd_new {b : B} {δ : List S} {σ : L2.St} {F H : Hp} {xs : List D} {p : Addr} {o : HO} (wf : Wf b F H) (r : Rs K b δ σ F H) (n : NewAt K b δ σ F H xs p) : Wf b F (upd H p o) ∧ Rs K b δ σ F (upd H p o) := by
  obtain ⟨⟨nF, vs, hp, rr⟩, h0, nj⟩ := n
  have own : ∀ i s q, δ[i]? = some s → s.owned = true → σ[i]? = some (some (V.ref q)) → Own K F H s q → Own K F (upd H p o) s q := fun i s q hi ho hs w => by
    have hne : q ≠ p := fun e => nj i s hi ho (by rw [hs, e])
    obtain ⟨w1, w2⟩ := w
    refine ⟨w1, ?_⟩
    cases s with
    | no => cases ho
    | v d => cases ho
    | ex _ _ _ _ _ => cases ho
    | ol k ys => obtain ⟨us, a1, a2⟩ := w2; exact ⟨us, by rw [upd_ne hne]; exact a1, a2⟩
    | oo k c ns ys => obtain ⟨dx, us, a1, a3, a2⟩ := w2; exact ⟨dx, us, by rw [upd_ne hne]; exact a1, a3, a2⟩
  refine ⟨⟨fun a x h => ?_, wf.ff, fun a x hn h => ?_, wf.new, fun a h => ?_, wf.pn⟩, ⟨r.len, fun i s x h1 h2 => ?_, r.sep⟩⟩
  · have hne : a ≠ p := fun e => by rw [e, nF] at h; cases h
    rw [upd_ne hne]; exact wf.fh a x h
  · have hne : a ≠ p := fun e => by rw [e, h0] at h; cases h
    rw [upd_ne hne]; exact wf.keep a x hn h
  · by_cases hne : a = p
    · rw [hne]; exact h0
    · rw [upd_ne hne] at h; exact wf.live a h
  · have z := r.sl i s x h1 h2
    cases s with
    | no => trivial
    | v d => exact z
    | ex a c d ns ys => exact z
    | ol k ys => obtain ⟨q, a1, a2, a3⟩ := z; exact ⟨q, a1, own i _ q h1 rfl (by rw [h2, a1]) a2, a3⟩
    | oo k c ns ys => obtain ⟨q, a1, a2, a3⟩ := z; exact ⟨q, a1, own i _ q h1 rfl (by rw [h2, a1]) a2, a3⟩
def wClrT (l : Wl) : Wt := fun δ Q Y => l δ (fun _ δ1 => Q .non δ1) Y
theorem x_clrT {l : Wl} (h : PE X e (TrL X.K W l)) (hbase : attributeBase e "clear" X.env (eval e X.env) = eval e X.env := by rfl) (hline : (apos.endLine == cpos.line) = true := by rfl) :
    PE X (.Call (.Attribute e "clear" apos) [] [] cpos) (Tr X.K W (wClrT l)) :=
  pe_imp (pe_bm0 PySem.F.plainAttrs_list PySem.F.slot_list_clear PySem.F.type_list_clear (r := rClear) mt_clear h hbase hline) fun σ H Q h => by
    obtain ⟨bb, δ, F, Po, Px, wf, r, q, k, kx⟩ := h
    refine ⟨bb, δ, F, _, _, wf, r, q, fun xs δ1 q1 p F1 H1 wf1 s1 r1 n1 => ?_, kx⟩
    obtain ⟨w2, r2⟩ := upd_new (o := .lst []) wf1 r1 n1
    obtain ⟨⟨nF, vs, hp, rr⟩, h0, nj⟩ := n1
    exact ⟨.inl ⟨rfl, _, .inl (.inl hp)⟩, p, _, rfl, rfl, hp, k _ _ q1 _ F1 _ w2 s1 r2 rfl⟩
theorem r_clrT {δ : List S} {l : Wl} {QD : D → List S → Prop} {Y : Er → List S → Prop} (h : l δ (fun _ δ1 => QD .non δ1) Y) : wClrT l δ QD Y := h
end
/-! a list that is lent -/
def flatD : D → Prop
  | .non => True
  | .bl _ => True
  | .int _ => True
  | .str _ => True
  | _ => False
theorem flat_rep {K : PySem.W.Frag} {F F' : Hp} {d : D} {v : V} (h : flatD d) (r : Rep K F d v) : Rep K F' d v := by
  cases d <;> first | exact h.elim | exact r
section
variable {X : Cx} {K : PySem.W.Frag} {W : WX} {k n : Nat} {f : Addr} {fd : FuncData} {ps : List Str} {ff : Fn} {dvs : List V} {dvl : List Value} {dd : List D} {x : Str} {p pos : Pos} {es : List Expr}
def wLend (j : Nat) (f : Fn) (dd : List D) (u : Wa) : Wt := fun δ Q Y => (∃ s : S, δ[j]? = some s ∧ s.owned = true) ∧ u δ (fun as δ1 => ∃ ds k xs, trees as = some ds ∧ δ1[j]? = some (.ol k xs) ∧ f ((.lst xs :: (ds ++ dd)).map S.v) (fun r _ => flatD (rvD r) ∧ Q (rvD r) δ1) (fun _ _ => False)) Y
theorem tr_lend {j : Nat} {f : Fn} {dd : List D} {dvs : List V} {n : Nat} {u : Wa} {σ : L2.St} {H : Hp} {Q : VK} (hd : ∀ F, Reps K F dd dvs) (hf : ∀ as R Y, f as R Y → as.length = n) (h : Tr K W (wLend j f dd u) σ H Q) : tCallSD (spF K n f) dvs (WE W) (tCons (tVar j) (TrA K W u)) σ H Q := by
  obtain ⟨b, δ, F, Po, Px, wf, r, ⟨⟨s0, hs0, ho0⟩, q⟩, kk, kx⟩ := h
  obtain ⟨p, hp, _, _⟩ := r.own hs0 ho0
  refine ⟨_, hp, b, δ, F, _, _, wf, r, q, fun as δ1 q1 vs F1 H1 wf1 s1 r1 ra => ?_, kx⟩
  obtain ⟨ds, kb, xs, hds, hj, q2⟩ := q1
  have rr := (reps_of ra hds).append (hd F1)
  obtain ⟨p', hp', ⟨nF, us, hu, ru⟩, hb⟩ := r1.own hj rfl
  have e : p' = p := by rw [hp] at hp'; cases hp'; rfl
  subst e
  have sF : Same F1 (upd F1 p' (.lst us)) := fun a o e => by rw [upd_ne (ne_of_none e nF)]; exact e
  have fh : Same (upd F1 p' (.lst us)) H1 := fun a o e => by
    by_cases z : a = p'
    · subst z; rw [upd_same] at e; cases e; exact hu
    · rw [upd_ne z] at e; exact wf1.fh a o e
  have ra2 : Reps K (upd F1 p' (.lst us)) (.lst xs :: (ds ++ dd)) (V.ref p' :: (vs ++ dvs)) := Reps.cons ⟨p', us, rfl, .inl (.inl upd_same), ru.mono sF⟩ (rr.mono sF)
  have hn : (V.ref p' :: (vs ++ dvs)).length = n := by
    have := hf _ _ _ q2
    rw [List.length_map] at this
    rw [ra2.length, this]
  refine ⟨upd F1 p' (.lst us), fun _ => none, _, _, _, hn, fh, (fun _ _ z => by cases z), rs_args ra2, q2, fun rv fin q3 v F' H' w fin' ok => ?_, fun er fin z => z.elim⟩
  obtain ⟨hfl, q4⟩ := q3
  have hh : Same H1 H' := fun a o e => w.keep a o (fun _ z => by cases z) e
  have ex : Ext F1 H1 F1 H' := ⟨Same.refl _, wf1.fh.trans hh, hh, fun _ _ e => .inl e⟩
  cases rv with
  | d d => exact kk _ _ q4 v F1 H' (wf1.ext ex) s1 (r1.ext ex) (flat_rep hfl ok)
  | l ys => exact hfl.elim
theorem x_lend (j : Nat) {xb : Str} {pb : Pos} {u : Wa} (F : FnG X.prog X.w X.K X.mg X.base (L2.CX X.prog X.w) k f fd ps (spF X.K n ff)) (hr : RmG k X.A) (hm : X.mg x = some (.ref f)) (hk : PySem.W.keepIn X.K (.ref f) = true) (hb : Binds X.K fd ps dvl) (hd : Vals dvs dvl) (hdd : ∀ F, Reps X.K F dd dvs)
    (tk : Takes X W) (hf : ∀ as R Y, ff as R Y → as.length = n) (ha : PA X es (TrA X.K W u)) (hN : X.N[j]? = some xb := by rfl) (hv : Vis X.env.scope xb := by first | exact Or.inl rfl | exact Or.inr (Or.inl rfl) | exact Or.inr (Or.inr rfl)) (hd1 : (xb == ("__debug__" : Str)) = false := by decide)
    (hcd : (xb == ("__classdict__" : Str)) = false := by decide) (hg : Gl X x := by rfl) (hdb : (x == ("__debug__" : Str)) = false := by decide) (he : starEach (.Name xb pb :: es) X.env = (false, eval (.Name xb pb) X.env) :: starEach es X.env := by rfl)
    (hpl : (backTo pos (starEach es X.env)).any (·.1) = false := by rfl) : PE X (.Call (.Name x p) (.Name xb pb :: es) [] pos) (Tr X.K W (wLend j ff dd u)) :=
  pe_imp (pe_callG F hr hg hm hk hb hd (fun σ => passAt tk σ) (pa_cons (pe_var hN hv hd1 hcd) ha he) hdb he hpl) fun _ _ _ => tr_lend hdd hf
theorem r_lend {δ : List S} {j : Nat} {f : Fn} {dd : List D} {u : Wa} {s : S} {QD : D → List S → Prop} {Y : Er → List S → Prop} (h1 : δ[j]? = some s) (h2 : s.owned = true) (q : u δ (fun as δ1 => ∃ ds k xs, trees as = some ds ∧ δ1[j]? = some (.ol k xs) ∧ f ((.lst xs :: (ds ++ dd)).map S.v) (fun r _ => flatD (rvD r) ∧ QD (rvD r) δ1) (fun _ _ => False)) Y) : wLend j f dd u δ QD Y := ⟨⟨s, h1, h2⟩, q⟩
end
/-! methods that give a new list; list(x) as a list of one's own -/
section
variable {X : Cx} {K : PySem.W.Frag} {W : WX} {k n : Nat} {C f : Addr} {fd : FuncData} {ps : List Str} {ff : Fn} {dvs : List V} {dvl : List Value} {dd : List D} {m x : Str} {o e : Expr} {es : List Expr} {p apos pos : Pos}
def wMethL (C : Addr) (m : Str) (f : Fn) (dd : List D) (w : Wt) (u : Wa) : Wl := fun δ Q Y => w δ (fun d δ1 => ∃ ns xs, d = .obj C ns xs ∧ m ∉ ns ∧ u δ1 (fun as δ2 => ∃ ds, trees as = some ds ∧ f ((d :: (ds ++ dd)).map S.v) (fun r _ => ∃ xs, r = .l xs ∧ Q xs δ2) (fun er _ => Y er δ2)) Y) Y
theorem tr_methL {f : Fn} {dd : List D} {dvs : List V} {n : Nat} {w : Wt} {u : Wa} {σ : L2.St} {H : Hp} {Q : VK} (hd : ∀ F, Reps K F dd dvs) (hf : ∀ as R Y, f as R Y → as.length = n) (h : TrL K W (wMethL C m f dd w u) σ H Q) :
    tMethD C m (spF K n f) dvs (WE W) (Tr K W w) (TrA K W u) σ H Q := by
  obtain ⟨b, δ, F, Po, Px, wf, r, q, k, kx⟩ := h
  refine ⟨b, δ, F, _, _, wf, r, q, fun d δ1 q1 x F1 H1 wf1 s1 r1 rx => ?_, kx⟩
  obtain ⟨ns, xs, rfl, hm, q1⟩ := q1
  obtain ⟨a, dx, us, rfl, ha, hl, ru⟩ := id rx
  refine ⟨a, dx, _, rfl, wf1.fh _ _ ha, lookup_zip_none hm, ?_⟩
  refine ⟨b, δ1, F1, _, _, wf1, r1, q1, fun as δ2 q2 vs F2 H2 wf2 s2 r2 ra => ?_, fun er δ' hx => Xp.back s1 (kx er δ' hx)⟩
  obtain ⟨ds, hds, q3⟩ := q2
  have rr : Reps K F2 (.obj C ns xs :: (ds ++ dd)) (V.ref a :: (vs ++ dvs)) := Reps.cons (rx.mono s2) ((reps_of ra hds).append (hd F2))
  have hn : (V.ref a :: (vs ++ dvs)).length = n := by
    have := hf _ _ _ q3
    rw [List.length_map] at this
    rw [rr.length, this]
  refine sp_call wf2 r2 rr hn q3 (fun rv fin q3 v F' H' w ok => ?_) fun er fin q3 F' H' w s r' cls dd x => kx er δ2 q3 cls dd F' H' w ((s1.trans s2).trans s) r' x
  obtain ⟨ys, rfl, q4⟩ := q3
  have ex := ext_of_call w (Same.refl _) fun i x z => by cases z
  obtain ⟨p, rfl, ho, h0⟩ := ok
  exact k _ _ q4 p F' H' (wf2.ext ex) ((s1.trans s2).trans ex.ff) (r2.ext ex) ⟨ho, wf2.live p h0, r2.notNew h0⟩
theorem xl_meth0 {pl : Sem Bool} {w : Wt} (ho : PE X o (Tr X.K W w)) (c : Cls X.K C) (hm : Meth X.K C m f) (F : FnG X.prog X.w X.K X.mg X.base (L2.CX X.prog X.w) k f fd ps (spF X.K n ff)) (hr : RmG k X.A) (hb : Binds X.K fd ps dvl) (hd : Vals dvs dvl) (hdd : ∀ F, Reps X.K F dd dvs)
    (tk : Takes X W) (hf : ∀ as R Y, ff as R Y → as.length = n)
    (ht : eval (.Call (.Attribute o m apos) [] [] pos) X.env = (do
      let ov ← eval o X.env
      standAt apos.atName
      let (f, first) ← holding [ov] (getMethod ov m pl)
      callWith pos f first (backTo pos (starEach [] X.env)) (backToKw pos (keywordEach [] X.env))) := by rfl) : PE X (.Call (.Attribute o m apos) [] [] pos) (TrL X.K W (wMethL C m ff dd w wNil)) :=
  pe_imp (pe_methG0 ho c hm F hr hb hd (fun σ => passAt tk σ) ht) fun σ H Q h => by
    have z := tr_methL hdd hf h
    obtain ⟨b, δ, F, Po, Px, wf, r, q, k, kx⟩ := z
    refine ⟨b, δ, F, Po, Px, wf, r, q, fun d δ1 q1 x F1 H1 wf1 s1 r1 rx => ?_, kx⟩
    obtain ⟨a, dx, fs, h1, h2, h3, h4⟩ := k d δ1 q1 x F1 H1 wf1 s1 r1 rx
    obtain ⟨b', δ', F', Po', Px', wf', r', q', k', kx'⟩ := h4
    exact ⟨a, dx, fs, h1, h2, h3, k' _ _ q' _ F' H1 wf' (Same.refl _) r' .nil⟩
theorem r_methL {δ : List S} {w : Wt} {u : Wa} {Q : List D → List S → Prop} {Y : Er → List S → Prop} (h : w δ (fun d δ1 => ∃ ns xs, d = .obj C ns xs ∧ m ∉ ns ∧ u δ1 (fun as δ2 => ∃ ds, trees as = some ds ∧ ff ((d :: (ds ++ dd)).map S.v) (fun r _ => ∃ xs, r = .l xs ∧ Q xs δ2) (fun er _ => Y er δ2)) Y) Y) : wMethL C m ff dd w u δ Q Y := h
def wListO (u : Wa) : Wl := fun δ Q Y => u δ (fun as δ1 => ∃ d xs, trees as = some [d] ∧ itemsOf d = some xs ∧ Q xs δ1) Y
theorem xl_list {u : Wa} {es : List Expr} (hm : X.mg "list" = none) (hv : bootBuiltins "list" = some (.type "list")) (ha : PA X (e :: es) (TrA X.K W u)) (hg : Gl X "list" := by rfl) (hn : ("list" : Str) ≠ "__name__" := by decide) (hdb : (("list" : Str) == ("__debug__" : Str)) = false := by decide)
    (he : starEach (e :: es) X.env = (false, eval e X.env) :: starEach es X.env := by rfl) (hpl : (backTo pos (starEach es X.env)).any (·.1) = false := by rfl) : PE X (.Call (.Name "list" p) (e :: es) [] pos) (TrL X.K W (wListO u)) :=
  pe_imp (pe_callTy call_list_of hg hm hv ha hn hdb he hpl) fun σ H Q h => by
  obtain ⟨b, δ, F, Po, Px, wf, rs, q, k, kx⟩ := h
  refine ⟨b, δ, F, _, _, wf, rs, q, fun as δ1 q1 vs F1 H1 wf1 s1 r1 ra => ?_, kx⟩
  obtain ⟨d, xs, hds, hx, q2⟩ := q1
  obtain ⟨v, rfl, rv⟩ := reps1 (reps_of ra hds)
  cases d with
  | lst ys =>
    cases hx
    obtain ⟨l, us, rfl, h1, h2⟩ := rv
    refine ⟨l, us, rfl, .inl (Same.seq wf1.fh h1), fun p np => ?_⟩
    obtain ⟨z1, z2, z3⟩ := newAt wf1 r1 np h2
    exact k _ δ1 q2 p F1 _ z1 s1 z2 z3
  | tup ys =>
    cases hx
    obtain ⟨l, us, rfl, h1, h2⟩ := rv
    refine ⟨l, us, rfl, .inr (seqT wf1.fh h1), fun p np => ?_⟩
    obtain ⟨z1, z2, z3⟩ := newAt wf1 r1 np h2
    exact k _ δ1 q2 p F1 _ z1 s1 z2 z3
  | _ => cases hx
theorem r_listO {δ : List S} {u : Wa} {QL : List D → List S → Prop} {Y : Er → List S → Prop} (h : u δ (fun as δ1 => ∃ d xs, trees as = some [d] ∧ itemsOf d = some xs ∧ QL xs δ1) Y) : wListO u δ QL Y := h
theorem r_listE {as : List A} {d : D} {xs : List D} {P : List D → Prop} (h1 : trees as = some [d]) (h2 : itemsOf d = some xs) (q : P xs) : ∃ d xs, trees as = some [d] ∧ itemsOf d = some xs ∧ P xs := ⟨d, xs, h1, h2, q⟩
theorem r_catL {δ : List S} {w u : Wt} {QL : List D → List S → Prop} {Y : Er → List S → Prop} (h : w δ (fun d δ1 => u δ1 (fun e δ2 => ∃ xs ys, d = .lst xs ∧ e = .lst ys ∧ xs.length + ys.length ≤ 1000 ∧ QL (xs ++ ys) δ2) Y) Y) : wCat w u δ QL Y := h
end
/-! [*x, ..] -/
section
variable {X : Cx} {W : WX} {e : Expr} {es : List Expr} {p : Pos}
def wStar (u : Wt) (w : Wa) : Wa := fun δ Q Y => u δ (fun d δ1 => ∃ xs, itemsOf d = some xs ∧ w δ1 (fun as δ2 => Q (xs.map A.d ++ as) δ2) Y) Y
theorem paired_app {R : A → V → Prop} : ∀ {as bs : List A} {vs ws : List V}, Paired R as vs → Paired R bs ws → Paired R (as ++ bs) (vs ++ ws)
  | [], _, _, _, .nil, h => h
  | _ :: _, _, _, _, .cons r ra, h => .cons r (paired_app ra h)
theorem paired_reps {K : PySem.W.Frag} {F : Hp} {σ : L2.St} : ∀ {ds : List D} {vs : List V}, Reps K F ds vs → Paired (RepA K F σ) (ds.map A.d) vs
  | [], _, h => by rw [show _ = _ from h]; exact .nil
  | d :: ds, _, h => by
    obtain ⟨v, r, rfl, h1, h2⟩ := h
    exact .cons h1 (paired_reps h2)
theorem xa_star {u : Wt} {w : Wa} (h : PE X e (Tr X.K W u)) (h' : PA X es (TrA X.K W w)) (hs : starEach (.Starred e p :: es) X.env = (true, eval e X.env) :: starEach es X.env := by rfl) : PA X (.Starred e p :: es) (TrA X.K W (wStar u w)) := pa_imp (StX.pa_star h h' hs) fun σ H Q h => by
  obtain ⟨b, δ, F, Po, Px, wf, r, q, k, kx⟩ := h
  refine ⟨b, δ, F, _, _, wf, r, q, fun d δ1 q1 x F1 H1 wf1 s1 r1 rx => ?_, kx⟩
  obtain ⟨xs, hx, q2⟩ := q1
  have fin : ∀ (a : Addr) (us : List V), Reps X.K F1 xs us → TrA X.K W w σ H1 fun ys H2 => Q (us ++ ys) H2 := fun a us ru =>
    ⟨b, δ1, F1, _, _, wf1, r1, q2, fun as δ2 q3 vs F2 H2 wf2 s2 r2 ra => k _ δ2 q3 _ F2 H2 wf2 (s1.trans s2) r2 (paired_app (paired_reps (ru.mono s2)) ra), fun er δ' hx => Xp.back s1 (kx er δ' hx)⟩
  cases d with
  | lst ys =>
    cases hx
    obtain ⟨a, us, rfl, h1, h2⟩ := rx
    exact ⟨a, us, rfl, .inr (Same.seq wf1.fh h1), fin a us h2⟩
  | tup ys =>
    cases hx
    obtain ⟨a, us, rfl, h1, h2⟩ := rx
    exact ⟨a, us, rfl, .inl (seqT wf1.fh h1), fin a us h2⟩
  | _ => cases hx
theorem r_star {δ : List S} {u : Wt} {w : Wa} {QA : List A → List S → Prop} {Y : Er → List S → Prop} (h : u δ (fun d δ1 => ∃ xs, itemsOf d = some xs ∧ w δ1 (fun as δ2 => QA (xs.map A.d ++ as) δ2) Y) Y) : wStar u w δ QA Y := h
theorem trees_app : ∀ (xs : List D) {as : List A} {ds : List D}, trees as = some ds → trees (xs.map A.d ++ as) = some (xs ++ ds)
  | [], _, _, h => h
  | x :: xs, as, ds, h => by
    show (trees (xs.map A.d ++ as)).map (x :: ·) = _
    rw [trees_app xs h]; rfl
end
/-! an own list compared, as a test -/
section
variable {X : Cx} {W : WX} {b : Expr} {x : Str} {p pos : Pos}
theorem x_tneO (i : Nat) {w : Wt} (hu : X.A.units + 64 < cLine) (hb : PE X b (Tr X.K W w)) (hm : behindInMarks .NotEq b = false) (hN : X.N[i]? = some x := by rfl) (hv : Vis X.env.scope x := by first | exact Or.inl rfl | exact Or.inr (Or.inl rfl) | exact Or.inr (Or.inr rfl)) (hd : (x == ("__debug__" : Str)) = false := by decide)
    (hcd : (x == ("__classdict__" : Str)) = false := by decide) : PT X (.Compare (.Name x p) [.NotEq] [b] pos) (TrT X.K W (wTst (wEqO true i w))) :=
  pt_imp (pt_cmpR (op_neD hu) (pe_var hN hv hd hcd) hb hm) fun σ H Q h => by
    obtain ⟨bb, δ, F, Po, Px, wf, r, ⟨⟨k0, ys, hk0⟩, q⟩, k, kx⟩ := h
    obtain ⟨p0, hp, ⟨nF0, vs0, hv0, _⟩, _⟩ := r.own hk0 rfl
    refine ⟨_, hp, bb, δ, F, _, _, wf, r, q, fun e δ1 q1 v F1 H1 wf1 s1 r1 rv => ?_, kx⟩
    obtain ⟨k1, xs, ps, pd, hi, h1, h2, h3, h4, q2⟩ := q1
    obtain ⟨p2, hp2, ⟨nF, vs, hvs, rr⟩, _⟩ := r1.own hi rfl
    rw [hp] at hp2
    cases hp2
    obtain ⟨c, hc, q3⟩ := q2
    cases hc
    exact ⟨.list ps, pd, .lst (.inl (.inl hvs)) (dps_of wf1.fh rr h1), dp_of wf1.fh rv h2, h3, h4, _, rfl, k _ _ q3 F1 H1 wf1 s1 r1⟩
theorem x_teqO (i : Nat) {w : Wt} (hu : X.A.units + 64 < cLine) (hb : PE X b (Tr X.K W w)) (hm : behindInMarks .Eq b = false) (hN : X.N[i]? = some x := by rfl) (hv : Vis X.env.scope x := by first | exact Or.inl rfl | exact Or.inr (Or.inl rfl) | exact Or.inr (Or.inr rfl)) (hd : (x == ("__debug__" : Str)) = false := by decide)
    (hcd : (x == ("__classdict__" : Str)) = false := by decide) : PT X (.Compare (.Name x p) [.Eq] [b] pos) (TrT X.K W (wTst (wEqO false i w))) :=
  pt_imp (pt_cmpR (op_eqD hu) (pe_var hN hv hd hcd) hb hm) fun σ H Q h => by
    obtain ⟨bb, δ, F, Po, Px, wf, r, ⟨⟨k0, ys, hk0⟩, q⟩, k, kx⟩ := h
    obtain ⟨p0, hp, ⟨nF0, vs0, hv0, _⟩, _⟩ := r.own hk0 rfl
    refine ⟨_, hp, bb, δ, F, _, _, wf, r, q, fun e δ1 q1 v F1 H1 wf1 s1 r1 rv => ?_, kx⟩
    obtain ⟨k1, xs, ps, pd, hi, h1, h2, h3, h4, q2⟩ := q1
    obtain ⟨p2, hp2, ⟨nF, vs, hvs, rr⟩, _⟩ := r1.own hi rfl
    rw [hp] at hp2
    cases hp2
    obtain ⟨c, hc, q3⟩ := q2
    cases hc
    exact ⟨.list ps, pd, .lst (.inl (.inl hvs)) (dps_of wf1.fh rr h1), dp_of wf1.fh rv h2, h3, h4, _, rfl, k _ _ q3 F1 H1 wf1 s1 r1⟩
end
/-! C(x, ..) where x is an own list that is only read: what is made holds no list -/
mutual
def noL : D → Prop
  | .lst _ => False
  | .tup xs => noLs xs
  | .obj _ _ xs => noLs xs
  | .dk _ xs => noLs xs
  | _ => True
def noLs : List D → Prop
  | [] => True
  | d :: ds => noL d ∧ noLs ds
end
def cutH (F : Hp) (p : Addr) : Hp := fun a => if a = p then none else F a
theorem cutH_ne {F : Hp} {p a : Addr} (h : a ≠ p) : cutH F p a = F a := if_neg h
theorem cutH_some {F : Hp} {p a : Addr} {o : HO} (h : cutH F p a = some o) : a ≠ p ∧ F a = some o := by
  unfold cutH at h
  by_cases e : a = p
  · rw [if_pos e] at h; cases h
  · rw [if_neg e] at h; exact ⟨e, h⟩
mutual
theorem rep_cut {K : PySem.W.Frag} {F : Hp} {p : Addr} {us : List V} (hp : F p = some (.lst us)) : ∀ {d : D} {v : V}, noL d → Rep K F d v → Rep K (cutH F p) d v
  | .non, _, _, h | .bl _, _, _, h | .int _, _, _, h | .str _, _, _, h | .ty _, _, _, h | .adr _, _, _, h => h
  | .lst _, _, n, _ => n.elim
  | .tup ds, v, n, h => by
    obtain ⟨a, vs, h1, h2, h3⟩ := h
    have other : ∀ {o : HO}, F a = some o → o ≠ .lst us → cutH F p a = some o := fun {o} e ne => by
      rw [cutH_ne (fun z => by rw [z, hp] at e; cases e; exact ne rfl)]; exact e
    refine ⟨a, vs, h1, ?_, reps_cut hp n h3⟩
    rcases h2 with (h2 | ⟨o, h2⟩) | h2
    · exact .inl (.inl (other h2 (fun z => nomatch z)))
    · exact .inl (.inr ⟨o, other h2 (fun z => nomatch z)⟩)
    · exact .inr h2
  | .obj c ns ds, v, n, h => by
    obtain ⟨a, dx, vs, h1, h2, h4, h3⟩ := h
    exact ⟨a, dx, vs, h1, by rw [cutH_ne (fun z => by rw [z, hp] at h2; cases h2)]; exact h2, h4, reps_cut hp n h3⟩
  | .dk ks ds, v, n, h => by
    obtain ⟨a, vs, h1, h2, h4, h3⟩ := h
    exact ⟨a, vs, h1, by rw [cutH_ne (fun z => by rw [z, hp] at h2; cases h2)]; exact h2, h4, reps_cut hp n h3⟩
  | .er c, v, _, h => by
    obtain ⟨a, h1, h2⟩ := h
    refine ⟨a, h1, ?_⟩
    have other : ∀ {a : Addr} {o : HO}, F a = some o → o ≠ .lst us → cutH F p a = some o := fun {a o} e ne => by
      rw [cutH_ne (fun z => by rw [z, hp] at e; cases e; exact ne rfl)]; exact e
    obtain ⟨d, h2, h3⟩ := h2
    exact ⟨d, other h2 (fun z => nomatch z), fun dd hd => by obtain ⟨fs, h⟩ := h3 dd hd; exact ⟨fs, other h (fun z => nomatch z)⟩⟩
theorem reps_cut {K : PySem.W.Frag} {F : Hp} {p : Addr} {us : List V} (hp : F p = some (.lst us)) : ∀ {ds : List D} {vs : List V}, noLs ds → Reps K F ds vs → Reps K (cutH F p) ds vs
  | [], _, _, h => h
  | d :: ds, _, n, h => by
    obtain ⟨v, r, h1, h2, h3⟩ := h
    exact ⟨v, r, h1, rep_cut hp n.1 h2, reps_cut hp n.2 h3⟩
end
section
variable {X : Cx} {K : PySem.W.Frag} {W : WX} {k n : Nat} {C f : Addr} {fd : FuncData} {ps : List Str} {ff : Fn} {dvs : List V} {dvl : List Value} {dd : List D} {x : Str} {p pos : Pos} {es : List Expr}
def wMakeN (C : Addr) (j : Nat) (f : Fn) (dd : List D) (u : Wa) : Wt := fun δ Q Y => (∃ s : S, δ[j]? = some s ∧ s.owned = true) ∧ u δ (fun as δ1 => ∃ ds k xs, trees as = some ds ∧ δ1[j]? = some (.ol k xs) ∧
  f (.oo true C [] [] :: (.lst xs :: (ds ++ dd)).map S.v) (fun r fin => ∃ ns ys, fin[0]? = some (.oo true C ns ys) ∧ noL (.obj C ns ys) ∧ Q (.obj C ns ys) δ1) (fun _ _ => False)) Y
theorem tr_makeN {j : Nat} {f : Fn} {dd : List D} {dvs : List V} {n : Nat} {u : Wa} {σ : L2.St} {H : Hp} {Q : VK} (hd : ∀ F, Reps K F dd dvs) (hf : ∀ as R Y, f as R Y → as.length = n) (hn' : ∀ as R Y, f as R Y → f as (fun r fin => r = .d .non ∧ R r fin) Y) (h : Tr K W (wMakeN C j f dd u) σ H Q) :
    tMakeD C (spF K n f) dvs (WE W) (tCons (tVar j) (TrA K W u)) σ H Q := by
  obtain ⟨b, δ, F, Po, Px, wf, r, ⟨⟨s0, hs0, ho0⟩, q⟩, kk, kx⟩ := h
  obtain ⟨p, hp, _, _⟩ := r.own hs0 ho0
  refine ⟨_, hp, b, δ, F, _, _, wf, r, q, fun as δ1 q1 vs F1 H1 wf1 s1 r1 ra => ?_, kx⟩
  obtain ⟨ds, kb, xs, hds, hj, q2⟩ := q1
  have rr := (reps_of ra hds).append (hd F1)
  obtain ⟨p', hp', ⟨nF, us, hu, ru⟩, hb⟩ := r1.own hj rfl
  have e : p' = p := by rw [hp] at hp'; cases hp'; rfl
  subst e
  have sF : Same F1 (upd F1 p' (.lst us)) := fun a o e => by rw [upd_ne (ne_of_none e nF)]; exact e
  have fh : Same (upd F1 p' (.lst us)) H1 := fun a o e => by
    by_cases z : a = p'
    · subst z; rw [upd_same] at e; cases e; exact hu
    · rw [upd_ne z] at e; exact wf1.fh a o e
  have ra2 : Reps K (upd F1 p' (.lst us)) (.lst xs :: (ds ++ dd)) (V.ref p' :: (vs ++ dvs)) := Reps.cons ⟨p', us, rfl, .inl (.inl upd_same), ru.mono sF⟩ (rr.mono sF)
  have wf0 : Wf ⟨upd F1 p' (.lst us), H1, fun _ => none⟩ (upd F1 p' (.lst us)) H1 := ⟨fh, Same.refl _, fun _ _ _ e => e, fun _ _ e => .inl e, fun _ e => e, fun _ _ e => by cases e⟩
  have r0 : Rs K ⟨upd F1 p' (.lst us), H1, fun _ => none⟩ [] [] (upd F1 p' (.lst us)) H1 := ⟨rfl, fun i s x h => by simp at h, fun i j s t q _ h => by simp at h⟩
  intro x dx nx ndx nex
  refine make_core (Po := fun d _ => noL d ∧ Po d δ1) wf0 r0 ra2 hf hn' q2 (fun d δ' q v F' H' w s r' rv => ?_) (fun er fin q => q.elim) x dx nx ndx nex
  obtain ⟨hl, q⟩ := q
  have hF' : F' p' = some (.lst us) := s _ _ upd_same
  have hh : Same H1 H' := fun a o e => w.keep a o (fun _ z => by cases z) e
  have ex : Ext F1 H1 (cutH F' p') H' := ⟨fun a o e => by rw [cutH_ne (ne_of_none e nF)]; exact s _ _ (sF _ _ e), fun a o e => w.fh _ _ (cutH_some e).2, hh, fun a o e => by
    obtain ⟨ne, e⟩ := cutH_some e
    rcases w.new a o e with z | z
    · refine .inl ?_
      have z : upd F1 p' (.lst us) a = some o := z
      rw [upd_ne ne] at z; exact z
    · exact .inr z⟩
  exact kk d δ1 q v _ H' (wf1.ext ex) (s1.trans ex.ff) (r1.ext ex) (rep_cut hF' hl rv)
theorem x_makeN (j : Nat) {xb : Str} {pb : Pos} {u : Wa} (M : Mk X.K C f) (F : FnG X.prog X.w X.K X.mg X.base (L2.CX X.prog X.w) k f fd ps (spF X.K n ff)) (hr : RmG (k + 1) X.A) (hm : X.mg x = some (.ref C)) (hb : Binds X.K fd ps dvl) (hd : Vals dvs dvl) (hdd : ∀ F, Reps X.K F dd dvs)
    (tk : Takes X W) (hf : ∀ as R Y, ff as R Y → as.length = n) (hn' : ∀ as R Y, ff as R Y → ff as (fun r fin => r = .d .non ∧ R r fin) Y) (ha : PA X es (TrA X.K W u)) (hN : X.N[j]? = some xb := by rfl) (hv : Vis X.env.scope xb := by first | exact Or.inl rfl | exact Or.inr (Or.inl rfl) | exact Or.inr (Or.inr rfl)) (hd1 : (xb == ("__debug__" : Str)) = false := by decide)
    (hcd : (xb == ("__classdict__" : Str)) = false := by decide) (hg : Gl X x := by rfl) (hdb : (x == ("__debug__" : Str)) = false := by decide) (he : starEach (.Name xb pb :: es) X.env = (false, eval (.Name xb pb) X.env) :: starEach es X.env := by rfl)
    (hpl : (backTo pos (starEach es X.env)).any (·.1) = false := by rfl) : PE X (.Call (.Name x p) (.Name xb pb :: es) [] pos) (Tr X.K W (wMakeN C j ff dd u)) :=
  pe_imp (pe_makeG M F hr hg hm hb hd (fun σ => passAt tk σ) (pa_cons (pe_var hN hv hd1 hcd) ha he) hdb he hpl) fun _ _ _ => tr_makeN hdd hf hn'
theorem r_makeN {δ : List S} {j : Nat} {f : Fn} {dd : List D} {u : Wa} {s : S} {QD : D → List S → Prop} {Y : Er → List S → Prop} (h1 : δ[j]? = some s) (h2 : s.owned = true) (q : u δ (fun as δ1 => ∃ ds k xs, trees as = some ds ∧ δ1[j]? = some (.ol k xs) ∧
  f (.oo true C [] [] :: (.lst xs :: (ds ++ dd)).map S.v) (fun r fin => ∃ ns ys, fin[0]? = some (.oo true C ns ys) ∧ noL (.obj C ns ys) ∧ QD (.obj C ns ys) δ1) (fun _ _ => False)) Y) : wMakeN C j f dd u δ QD Y := ⟨⟨s, h1, h2⟩, q⟩
end
end L3

set_option Elab.async false
set_option linter.all false
set_option maxRecDepth 100000
set_option maxHeartbeats 1000000
/-! == and != of lists whose items may have an own == -/
namespace GB
open PySem PySem.SeqAt
open AutoSeq1 (wpAny_loadPart')
open MeetsSeq MeetsSeq2 MeetsSeq3 SeqRoads2
section
variable {prog : Program} {w : World}
/-- what the walk knows at each turn -/
def LookB (prog : Program) (w : World) (A : Around) (R : Result → Shared → Prop) (l b : Addr) (m : Nat) (e : Nat → Bool) (I : Nat → Shared → Prop) : Prop :=
  ∀ i s, I i s → ∃ (items items2 : Array Value) (n n2 : Nat) (dd dd2 : Option Addr) (sl sl2 : Array (Option Value)),
    s.heap.get? l = some { cls := .type "list", dict := dd, data := .seq items n, slots := sl } ∧ s.heap.get? b = some { cls := .type "list", dict := dd2, data := .seq items2 n2, slots := sl2 } ∧
    items.size = m ∧ items2.size = m ∧ ∀ (h1 : i < items.size) (h2 : i < items2.size), wpAny (model prog w) A.in1 (eqBool items[i] items2[i]) (fun r s' => r = e i ∧ I (i + 1) s') (fun e s' => R (.error e) s') s
theorem listB_loop (l b : Addr) (m : Nat) (e : Nat → Bool) (k : Nat) :
    ∀ i : Nat, m - i = k → i ≤ m → MeetsIn prog w (Builtin.«list.__eq__.loop» ⟨[.ref l, .ref b, rawInt i, rawInt 2], []⟩)
      (fun A R s => ∃ I : Nat → Shared → Prop, LookB prog w A R l b m e I ∧ I i s ∧ ∀ j s', I j s' → R (.ok (.ret (.bool (((List.range m).drop i).all e)))) s') := by
  induction k with
  | zero =>
    intro i hk hi A R s h
    obtain ⟨I, look, hI, fin⟩ := h
    obtain ⟨items, items2, n, n2, dd, dd2, sl, sl2, hl, hb, z1, z2, _⟩ := look i s hI
    have h := fin i s hI
    obtain ⟨hp, g, d, tk, os⟩ := s
    wp_walk using wpAny_loadPart' hl, wpAny_loadPart' hb
    have hi1 : items[((i : Nat) : Int).toNat]? = none := by simp; omega
    have hi2 : items2[((i : Nat) : Int).toNat]? = none := by simp; omega
    have hd : (List.range m).drop i = [] := by simp; omega
    rw [hd] at h
    rw [hi1, hi2]
    wp_walk using wpAny_loadPart' hl, wpAny_loadPart' hb
    show R (.ok (.ret (.bool (items.size == items2.size)))) _
    rw [z1, z2]
    simpa using h
  | succ k ih =>
    intro i hk hi A R s h
    obtain ⟨I, look, hI, fin⟩ := h
    obtain ⟨items, items2, n, n2, dd, dd2, sl, sl2, hl, hb, z1, z2, turn⟩ := look i s hI
    obtain ⟨hp, g, d, tk, os⟩ := s
    wp_walk using wpAny_loadPart' hl, wpAny_loadPart' hb
    have hlt : i < items.size := by omega
    have hlt2 : i < items2.size := by omega
    have hi1 : items[((i : Nat) : Int).toNat]? = some items[i] := by simp [hlt]
    have hi2 : items2[((i : Nat) : Int).toNat]? = some items2[i] := by simp [hlt2]
    have hd : (List.range m).drop i = i :: (List.range m).drop (i + 1) := by
      rw [List.drop_eq_getElem_cons (by simp; omega)]; simp
    have hc : ((i : Int) + 1) = ((i + 1 : Nat) : Int) := by push_cast; rfl
    rw [hd] at fin
    simp only [List.all_cons] at fin
    rw [hi1, hi2]
    refine wpAny_bind (wpAny_mono (turn hlt hlt2) (fun r s2 q2 => ?_) fun _ _ x => x)
    obtain ⟨hr, q2⟩ := q2
    subst hr
    cases hb' : e i with
    | true =>
      rw [hb'] at fin
      wp_walk
      rw [hc]
      exact ⟨plainId_quiet plain_eq_loop _, codeAny_builtin entry_eq_loop (by
        rw [Around.under_plainId plain_eq_loop _]
        exact ih (i + 1) (by omega) (by omega) A R _ ⟨I, look, q2, by simpa using fin⟩)⟩
    | false =>
      rw [hb'] at fin
      obtain ⟨items', items2', n', n2', dd', dd2', sl', sl2', hl', hb'', z1', z2', _⟩ := look (i + 1) s2 q2
      have h := fin (i + 1) s2 q2
      have g1 : items'[((i : Nat) : Int).toNat]? = some (items'[i]'(by omega)) := by
        rw [Int.toNat_natCast]; exact Array.getElem?_eq_getElem (by omega)
      have g2 : items2'[((i : Nat) : Int).toNat]? = some (items2'[i]'(by omega)) := by
        rw [Int.toNat_natCast]; exact Array.getElem?_eq_getElem (by omega)
      obtain ⟨hp2, gg2, d2, tk2, os2⟩ := s2
      wp_walk using wpAny_loadPart' hl', wpAny_loadPart' hb''
      rw [g1, g2]
      wp_walk
      simpa using h
theorem listNe_loop (l b : Addr) (m : Nat) (e : Nat → Bool) (k : Nat) :
    ∀ i : Nat, m - i = k → i ≤ m → MeetsIn prog w (Builtin.«list.__eq__.loop» ⟨[.ref l, .ref b, rawInt i, rawInt 3], []⟩)
      (fun A R s => ∃ I : Nat → Shared → Prop, LookB prog w A R l b m e I ∧ I i s ∧ ∀ j s', I j s' → R (.ok (.ret (.bool (!((List.range m).drop i).all e)))) s') := by
  induction k with
  | zero =>
    intro i hk hi A R s h
    obtain ⟨I, look, hI, fin⟩ := h
    obtain ⟨items, items2, n, n2, dd, dd2, sl, sl2, hl, hb, z1, z2, _⟩ := look i s hI
    have h := fin i s hI
    obtain ⟨hp, g, d, tk, os⟩ := s
    wp_walk using wpAny_loadPart' hl, wpAny_loadPart' hb
    have hi1 : items[((i : Nat) : Int).toNat]? = none := by simp; omega
    have hi2 : items2[((i : Nat) : Int).toNat]? = none := by simp; omega
    have hd : (List.range m).drop i = [] := by simp; omega
    rw [hd] at h
    rw [hi1, hi2]
    wp_walk using wpAny_loadPart' hl, wpAny_loadPart' hb
    show R (.ok (.ret (.bool (items.size != items2.size)))) _
    rw [z1, z2]
    simpa using h
  | succ k ih =>
    intro i hk hi A R s h
    obtain ⟨I, look, hI, fin⟩ := h
    obtain ⟨items, items2, n, n2, dd, dd2, sl, sl2, hl, hb, z1, z2, turn⟩ := look i s hI
    obtain ⟨hp, g, d, tk, os⟩ := s
    wp_walk using wpAny_loadPart' hl, wpAny_loadPart' hb
    have hlt : i < items.size := by omega
    have hlt2 : i < items2.size := by omega
    have hi1 : items[((i : Nat) : Int).toNat]? = some items[i] := by simp [hlt]
    have hi2 : items2[((i : Nat) : Int).toNat]? = some items2[i] := by simp [hlt2]
    have hd : (List.range m).drop i = i :: (List.range m).drop (i + 1) := by
      rw [List.drop_eq_getElem_cons (by simp; omega)]; simp
    have hc : ((i : Int) + 1) = ((i + 1 : Nat) : Int) := by push_cast; rfl
    rw [hd] at fin
    simp only [List.all_cons] at fin
    rw [hi1, hi2]
    refine wpAny_bind (wpAny_mono (turn hlt hlt2) (fun r s2 q2 => ?_) fun _ _ x => x)
    obtain ⟨hr, q2⟩ := q2
    subst hr
    cases hb' : e i with
    | true =>
      rw [hb'] at fin
      wp_walk
      rw [hc]
      exact ⟨plainId_quiet plain_eq_loop _, codeAny_builtin entry_eq_loop (by
        rw [Around.under_plainId plain_eq_loop _]
        exact ih (i + 1) (by omega) (by omega) A R _ ⟨I, look, q2, by simpa using fin⟩)⟩
    | false =>
      rw [hb'] at fin
      obtain ⟨items', items2', n', n2', dd', dd2', sl', sl2', hl', hb'', z1', z2', _⟩ := look (i + 1) s2 q2
      have h := fin (i + 1) s2 q2
      have g1 : items'[((i : Nat) : Int).toNat]? = some (items'[i]'(by omega)) := by
        rw [Int.toNat_natCast]; exact Array.getElem?_eq_getElem (by omega)
      have g2 : items2'[((i : Nat) : Int).toNat]? = some (items2'[i]'(by omega)) := by
        rw [Int.toNat_natCast]; exact Array.getElem?_eq_getElem (by omega)
      obtain ⟨hp2, gg2, d2, tk2, os2⟩ := s2
      wp_walk using wpAny_loadPart' hl', wpAny_loadPart' hb''
      rw [g1, g2]
      wp_walk
      simpa using h
theorem list_eqB (l b : Addr) (m : Nat) (e : Nat → Bool) : MeetsIn prog w (Builtin.«list.__eq__» ⟨[.ref l, .ref b], []⟩)
      (fun A R s => ∃ I : Nat → Shared → Prop, LookB prog w A R l b m e I ∧ I 0 s ∧ ∀ j s', I j s' → R (.ok (.ret (.bool ((List.range m).all e)))) s') := by
  intro A R s h
  obtain ⟨I, look, hI, fin⟩ := h
  obtain ⟨items, items2, n, n2, dd, dd2, sl, sl2, hl, hb, z1, z2, _⟩ := look 0 s hI
  obtain ⟨hp, g, d, tk, os⟩ := s
  have f3 := AutoSeq1.sub_list_list
  have hne : ¬ (items.size != items2.size) = true := by rw [z1, z2]; simp
  wp_walk using wpAny_loadPart' hl, wpAny_loadPart' hb
  exact ⟨plainId_quiet plain_eq_loop _, codeAny_builtin entry_eq_loop (by
    rw [Around.under_plainId plain_eq_loop _]
    exact listB_loop l b m e _ 0 rfl (Nat.zero_le _) A R _ ⟨I, look, hI, by simpa using fin⟩)⟩
theorem list_neB (l b : Addr) (m : Nat) (e : Nat → Bool) : MeetsIn prog w (Builtin.«list.__ne__» ⟨[.ref l, .ref b], []⟩)
      (fun A R s => ∃ I : Nat → Shared → Prop, LookB prog w A R l b m e I ∧ I 0 s ∧ ∀ j s', I j s' → R (.ok (.ret (.bool (!(List.range m).all e)))) s') := by
  intro A R s h
  obtain ⟨I, look, hI, fin⟩ := h
  obtain ⟨items, items2, n, n2, dd, dd2, sl, sl2, hl, hb, z1, z2, _⟩ := look 0 s hI
  obtain ⟨hp, g, d, tk, os⟩ := s
  have f3 := AutoSeq1.sub_list_list
  have hne : ¬ (items.size != items2.size) = true := by rw [z1, z2]; simp
  wp_walk using wpAny_loadPart' hl, wpAny_loadPart' hb
  exact ⟨plainId_quiet plain_eq_loop _, codeAny_builtin entry_eq_loop (by
    rw [Around.under_plainId plain_eq_loop _]
    exact listNe_loop l b m e _ 0 rfl (Nat.zero_le _) A R _ ⟨I, look, hI, by simpa using fin⟩)⟩
theorem rc_listB {A : Around} {E : Value → Shared → Prop} {s : Shared} {l b : Addr} {m : Nat} {e : Nat → Bool} {Q : Value → Shared → Prop} (hu : A.units < cLine) (I : Nat → Shared → Prop) (look : LookB prog w A (wants (fun v s' => v ≠ .notImplemented ∧ Q v s') E) l b m e I)
    (fin : ∀ i s, I i s → Q (.bool ((List.range m).all e)) s) (h : I 0 s) : wpAny (model prog w) A (richCompare .Eq (.ref l) (.ref b)) Q E s := by
  obtain ⟨items, items2, n, n2, dd, dd2, sl, sl2, hl, hb, z1, z2, _⟩ := look 0 s h
  have ta : s.TypeIs (.ref l) "list" := ⟨_, hl, rfl⟩
  have tb : s.TypeIs (.ref b) "list" := ⟨_, hb, rfl⟩
  exact wpAny_richCompare_same_room (op := .Eq) ta tb F.slot_list_eq (call_meetsIn F.slot_list_eq ta F.entry_list_eq (F.args_list_eq_2 _ _) (list_eqB l b m e) ⟨I, look, h, fun j s' q => ⟨(fun x => nomatch x), fin j s' q⟩⟩) hu
theorem rn_listB {A : Around} {E : Value → Shared → Prop} {s : Shared} {l b : Addr} {m : Nat} {e : Nat → Bool} {Q : Value → Shared → Prop} (hu : A.units < cLine) (I : Nat → Shared → Prop) (look : LookB prog w A (wants (fun v s' => v ≠ .notImplemented ∧ Q v s') E) l b m e I)
    (fin : ∀ i s, I i s → Q (.bool (!(List.range m).all e)) s) (h : I 0 s) : wpAny (model prog w) A (richCompare .NotEq (.ref l) (.ref b)) Q E s := by
  obtain ⟨items, items2, n, n2, dd, dd2, sl, sl2, hl, hb, z1, z2, _⟩ := look 0 s h
  have ta : s.TypeIs (.ref l) "list" := ⟨_, hl, rfl⟩
  have tb : s.TypeIs (.ref b) "list" := ⟨_, hb, rfl⟩
  exact wpAny_richCompare_same_room (op := .NotEq) ta tb F.slot_list_ne (call_meetsIn F.slot_list_ne ta F.entry_list_ne (F.args_list_ne_2 _ _) (list_neB l b m e) ⟨I, look, h, fun j s' q => ⟨(fun x => nomatch x), fin j s' q⟩⟩) hu
end
end GB
namespace L3
open PySem L2
section
variable {X : Cx} {k n : Nat} {C f : Addr} {fd : FuncData} {ps : List Str} {ff : Fn}
/-! ### lists of one length, item by item -/
def LstB (K : PySem.W.Frag) (D : EqvB) : EqvB := fun x y b H => ∃ (a c : Addr) (xs ys : List V) (bs : List Bool), x = .ref a ∧ y = .ref c ∧ SqL K H a xs ∧ SqL K H c ys ∧ xs.length = ys.length ∧ bs.length = xs.length ∧
  (∀ (i : Nat) (x y : V) (k : Bool), xs[i]? = some x → ys[i]? = some y → bs[i]? = some k → D x y k H) ∧ b = bs.all id
theorem mon_lstB {K : PySem.W.Frag} {D : EqvB} (hD : MonB D) : MonB (LstB K D) := fun x y b H H' e ⟨a, c, xs, ys, bs, hx, hy, h1, h2, h0, h3, h4, h5⟩ =>
  ⟨a, c, xs, ys, bs, hx, hy, Same.seq e h1, Same.seq e h2, h0, h3, fun i x y k a1 a2 a3 => hD _ _ _ _ _ e (h4 i x y k a1 a2 a3), h5⟩
theorem rfl_lstB {D : EqvB} (hD : RflB X D) : RflB X (LstB X.K D) := fun pins s σ H x b I ⟨a, c, xs, ys, bs, hx, hy, h1, h2, h0, h3, h4, h5⟩ => by
  subst hx
  cases hy
  have e := I.list_inj h1 h2
  subst e
  rw [h5, List.all_eq_true]
  intro k hk
  obtain ⟨i, hi, e⟩ := List.getElem_of_mem hk
  have hi' : i < xs.length := by omega
  exact hD _ _ _ _ _ _ I (h4 i xs[i] xs[i] k (List.getElem?_eq_getElem hi') (List.getElem?_eq_getElem hi') (by rw [List.getElem?_eq_getElem hi, e]))
theorem all_range (bs : List Bool) : (List.range bs.length).all (fun i => bs.getD i true) = bs.all id := by
  rw [Bool.eq_iff_iff, List.all_eq_true, List.all_eq_true]
  constructor
  · intro q k hk
    obtain ⟨i, hi, e⟩ := List.getElem_of_mem hk
    have := q i (List.mem_range.mpr hi)
    rw [List.getD_eq_getElem?_getD, List.getElem?_eq_getElem hi] at this
    rw [← e]; exact this
  · intro q i hi
    have hi := List.mem_range.mp hi
    rw [List.getD_eq_getElem?_getD, List.getElem?_eq_getElem hi]
    exact q _ (List.getElem_mem hi)
theorem look_lst {D : EqvB} (hD : MonB D) (h : EqB X n D) {A : Around} {R : Result → Shared → Prop} {pins : List (Addr × Obj)} {σ : L2.St} {H : Hp} {a c : Addr} {xs ys : List V} {bs : List Bool} (hA : RmG (n + 1) A) (hfr : A.frames = X.A.frames) (hR : ∀ e s', X.xe e s' → R (.error e) s')
    (h1 : SqL X.K H a xs) (h2 : SqL X.K H c ys) (h0 : xs.length = ys.length) (h3 : bs.length = xs.length) (h4 : ∀ (i : Nat) (x y : V) (k : Bool), xs[i]? = some x → ys[i]? = some y → bs[i]? = some k → D x y k H) :
    GB.LookB X.prog X.w A R a c bs.length (fun i => bs.getD i true) (fun _ s' => ∃ H', Inv X pins σ H' s' ∧ Same H H') := by
  rintro i s ⟨H1, I1, x1⟩
  obtain ⟨its, r1, p1, _⟩ := I1.list (Same.seq x1 h1)
  obtain ⟨its2, r2, p2, _⟩ := I1.list (Same.seq x1 h2)
  have l1 := r1.length
  have l2 := r2.length
  obtain ⟨⟨cls, dd, data, sl⟩, ho, hc, m1, hd⟩ := p1.isList
  obtain ⟨⟨cls2, dd2, data2, sl2⟩, ho2, hc2, m2, hd2⟩ := p2.isList
  simp only at hc hd hc2 hd2
  subst hc hd hc2 hd2
  refine ⟨its.toArray, its2.toArray, m1, m2, dd, dd2, sl, sl2, ho, ho2, by rw [List.size_toArray]; omega, by rw [List.size_toArray]; omega, fun k1 k2 => ?_⟩
  have j1 : i < its.length := by simpa using k1
  have j2 : i < its2.length := by simpa using k2
  have q1 : i < xs.length := by omega
  have q2 : i < ys.length := by omega
  have q3 : i < bs.length := by omega
  obtain ⟨u, hu, ru⟩ := r1.get (List.getElem?_eq_getElem q1)
  obtain ⟨v, hv, rv⟩ := r2.get (List.getElem?_eq_getElem q2)
  have g1 : its.toArray[i] = u := by
    have : its[i]? = some its[i] := List.getElem?_eq_getElem j1
    rw [this] at hu
    have := Option.some.inj hu
    simpa using this
  have g2 : its2.toArray[i] = v := by
    have : its2[i]? = some its2[i] := List.getElem?_eq_getElem j2
    rw [this] at hv
    have := Option.some.inj hv
    simpa using this
  rw [g1, g2]
  have hb : bs.getD i true = bs[i] := by rw [List.getD_eq_getElem?_getD, List.getElem?_eq_getElem q3]; rfl
  simp only [hb]
  refine wpAny_mono (h A.in1 pins s σ H1 xs[i] ys[i] u v bs[i] hA.in1 hfr I1 ru rv (hD _ _ _ _ _ x1 (h4 i _ _ _ (List.getElem?_eq_getElem q1) (List.getElem?_eq_getElem q2) (List.getElem?_eq_getElem q3)))) (fun r s2 q => ?_) fun e s' x => hR e s' x
  obtain ⟨hr, H2, I2, x2⟩ := q
  exact ⟨hr, H2, I2, x1.trans x2⟩
theorem rc_lst {D : EqvB} (hD : MonB D) (h : EqB X n D) : RcB X (n + 1) (LstB X.K D) := by
  intro A pins s σ H x y u v b hA hfr I rx ry d
  obtain ⟨a, c, xs, ys, bs, rfl, rfl, h1, h2, h0, h3, h4, rfl⟩ := d
  cases (show u = Value.ref a from rx)
  cases (show v = Value.ref c from ry)
  refine GB.rc_listB (m := bs.length) (e := fun i => bs.getD i true) hA.r.units0 (fun _ s' => ∃ H', Inv X pins σ H' s' ∧ Same H H') (look_lst hD h hA hfr (fun e s' x => x) h1 h2 h0 h3 h4) (fun i s' q => ?_) ⟨H, I, Same.refl _⟩
  exact ⟨by rw [all_range], q⟩
theorem rn_lst {D : EqvB} (hD : MonB D) (h : EqB X n D) : RnB X (n + 1) (LstB X.K D) := by
  intro A pins s σ H x y u v b hA hfr I rx ry d
  obtain ⟨a, c, xs, ys, bs, rfl, rfl, h1, h2, h0, h3, h4, rfl⟩ := d
  cases (show u = Value.ref a from rx)
  cases (show v = Value.ref c from ry)
  refine GB.rn_listB (m := bs.length) (e := fun i => bs.getD i true) hA.r.units0 (fun _ s' => ∃ H', Inv X pins σ H' s' ∧ Same H H') (look_lst hD h hA hfr (fun e s' x => x) h1 h2 h0 h3 h4) (fun i s' q => ?_) ⟨H, I, Same.refl _⟩
  exact ⟨by rw [all_range], q⟩
/-! ### trees of tuples and lists -/
def DX (K : PySem.W.Frag) (C : Addr) (ff : Fn) : Nat → EqvB
  | 0 => LM K C ff
  | n + 1 => OrB (LM K C ff) (OrB (TupB K (DX K C ff n)) (LstB K (DX K C ff n)))
theorem mon_DX {K : PySem.W.Frag} : ∀ n, MonB (DX K C ff n)
  | 0 => mon_or mon_lf mon_at
  | n + 1 => mon_or (mon_or mon_lf mon_at) (mon_or (mon_tupB (mon_DX n)) (mon_lstB (mon_DX n)))
theorem rfl_DX : ∀ n, RflB X (DX X.K C ff n)
  | 0 => rfl_or rfl_lf rfl_at
  | n + 1 => rfl_or (rfl_or rfl_lf rfl_at) (rfl_or (rfl_tupB (rfl_DX n)) (rfl_lstB (rfl_DX n)))
theorem ref_lst {K : PySem.W.Frag} {D : EqvB} : ∀ x y b H, LstB K D x y b H → ∃ a c, x = .ref a ∧ y = .ref c := fun x y b H ⟨a, c, _, _, _, hx, hy, _⟩ => ⟨a, c, hx, hy⟩
theorem eq_DX (O : CmpIn X.K C f "__eq__") (hn : okCmp X.K C (.obj C [] [])) (Fk : FnG X.prog X.w X.K X.mg X.base (L2.CX X.prog X.w) k f fd ps (spF X.K 2 ff)) (hb : Binds X.K fd ps []) (hl : ∀ as R Y, ff as R Y → as.length = 2) : ∀ n, EqB X (k + n) (DX X.K C ff n)
  | 0 => eq_LM O hn Fk hb hl
  | n + 1 => eq_or ((eq_LM O hn Fk hb hl).mono (by omega)) (eq_or ((rc_tup (mon_DX n) (eq_DX O hn Fk hb hl n)).eqB (rfl_tupB (rfl_DX n)) ref_tup) ((rc_lst (mon_DX n) (eq_DX O hn Fk hb hl n)).eqB (rfl_lstB (rfl_DX n)) ref_lst))
def EqX (C : Addr) (ff : Fn) : Nat → D → D → Bool → Prop
  | 0, d, e, b => LfR C ff d e b ∨ AtR d e b
  | n + 1, d, e, b => (LfR C ff d e b ∨ AtR d e b) ∨ (∃ (xs ys : List D) (bs : List Bool), d = .tup xs ∧ e = .tup ys ∧ bs.length = min xs.length ys.length ∧
      (∀ (i : Nat) (x y : D) (k : Bool), xs[i]? = some x → ys[i]? = some y → bs[i]? = some k → EqX C ff n x y k) ∧ b = (bs.all id && decide (xs.length = ys.length))) ∨
      ∃ (xs ys : List D) (bs : List Bool), d = .lst xs ∧ e = .lst ys ∧ xs.length = ys.length ∧ bs.length = xs.length ∧
      (∀ (i : Nat) (x y : D) (k : Bool), xs[i]? = some x → ys[i]? = some y → bs[i]? = some k → EqX C ff n x y k) ∧ b = bs.all id
def LstX (C : Addr) (ff : Fn) (n : Nat) : D → D → Bool → Prop := fun d e b => ∃ (xs ys : List D) (bs : List Bool), d = .lst xs ∧ e = .lst ys ∧ xs.length = ys.length ∧ bs.length = xs.length ∧
      (∀ (i : Nat) (x y : D) (k : Bool), xs[i]? = some x → ys[i]? = some y → bs[i]? = some k → EqX C ff n x y k) ∧ b = bs.all id
theorem eqX_DX {K : PySem.W.Frag} {F H : Hp} (sF : Same F H) : ∀ (n : Nat) {d e : D} {b : Bool} {x y : V}, EqX C ff n d e b → Rep K F d x → Rep K F e y → DX K C ff n x y b H
  | 0, d, e, b, x, y, h, r1, r2 => h.elim (fun z => .inl ⟨F, d, e, sF, r1, r2, z⟩) fun z => .inr (at_V z r1 r2)
  | n + 1, d, e, b, x, y, h, r1, r2 => by
    rcases h with h | ⟨xs, ys, bs, h1, h2, h3, h4, h5⟩ | ⟨xs, ys, bs, h1, h2, h0, h3, h4, h5⟩
    · exact .inl (h.elim (fun z => .inl ⟨F, d, e, sF, r1, r2, z⟩) fun z => .inr (at_V z r1 r2))
    · subst h1 h2
      obtain ⟨a, vs, rfl, q1, q2⟩ := r1
      obtain ⟨c, ws, rfl, q3, q4⟩ := r2
      refine .inr (.inl ⟨a, c, vs, ws, bs, rfl, rfl, seqT sF q1, seqT sF q3, by rw [h3, q2.length, q4.length], fun i x y k a1 a2 a3 => ?_, by rw [h5, q2.length, q4.length]⟩)
      obtain ⟨d', z1, z2⟩ := reps_get q2 a1
      obtain ⟨e', z3, z4⟩ := reps_get q4 a2
      exact eqX_DX sF n (h4 i d' e' k z1 z3 a3) z2 z4
    · subst h1 h2
      obtain ⟨a, vs, rfl, q1, q2⟩ := r1
      obtain ⟨c, ws, rfl, q3, q4⟩ := r2
      refine .inr (.inr ⟨a, c, vs, ws, bs, rfl, rfl, Same.seq sF q1, Same.seq sF q3, by rw [q2.length, q4.length, h0], by rw [h3, q2.length], fun i x y k a1 a2 a3 => ?_, h5⟩)
      obtain ⟨d', z1, z2⟩ := reps_get q2 a1
      obtain ⟨e', z3, z4⟩ := reps_get q4 a2
      exact eqX_DX sF n (h4 i d' e' k z1 z3 a3) z2 z4
theorem lstX_DX {K : PySem.W.Frag} {F H : Hp} (sF : Same F H) (n : Nat) {d e : D} {b : Bool} {x y : V} (h : LstX C ff n d e b) (r1 : Rep K F d x) (r2 : Rep K F e y) : LstB K (DX K C ff n) x y b H := by
  obtain ⟨xs, ys, bs, h1, h2, h0, h3, h4, h5⟩ := h
  subst h1 h2
  obtain ⟨a, vs, rfl, q1, q2⟩ := r1
  obtain ⟨c, ws, rfl, q3, q4⟩ := r2
  refine ⟨a, c, vs, ws, bs, rfl, rfl, Same.seq sF q1, Same.seq sF q3, by rw [q2.length, q4.length, h0], by rw [h3, q2.length], fun i x y k a1 a2 a3 => ?_, h5⟩
  obtain ⟨d', z1, z2⟩ := reps_get q2 a1
  obtain ⟨e', z3, z4⟩ := reps_get q4 a2
  exact eqX_DX sF n (h4 i d' e' k z1 z3 a3) z2 z4
/-- == or != of two lists of one length -/
def oEqL (neg : Bool) (C : Addr) (ff : Fn) : O2 := fun d e P => ∃ n b, n ≤ 8 ∧ LstX C ff n d e b ∧ P (.bl (if neg then !b else b))
theorem o_eqL (O : CmpIn X.K C f "__eq__") (hn : okCmp X.K C (.obj C [] [])) (Fk : FnG X.prog X.w X.K X.mg X.base (L2.CX X.prog X.w) k f fd ps (spF X.K 2 ff)) (hr : RmG (k + 9) X.A) (hb : Binds X.K fd ps []) (hl : ∀ as R Y, ff as R Y → as.length = 2) : OpR X (compareOp .Eq) (Op2 X.K (oEqL false C ff)) := by
  intro pins s σ H x y u v Q I rx ry h
  obtain ⟨F, d, e, P, sF, r1, r2, ⟨n, b, hn8, hq, hP⟩, kk⟩ := h
  show wpAny (model X.prog X.w) X.A (richCompare .Eq u v) (EP X pins σ Q) X.xe s
  have g := rc_lst (mon_DX n) (eq_DX O hn Fk hb hl n)
  refine wpAny_mono (g X.A pins s σ H x y u v b (hr.mono (by omega)) rfl I rx ry (lstX_DX sF n hq r1 r2)) (fun r s' z => ?_) fun _ _ x => x
  obtain ⟨hr', H', I', e⟩ := z
  subst hr'
  exact ⟨.bl b, H', I', rfl, kk (.bl b) hP _ F H' ⟨Same.refl _, sF.trans e, e, fun a o h => .inl h⟩ rfl⟩
theorem o_neL (O : CmpIn X.K C f "__eq__") (hn : okCmp X.K C (.obj C [] [])) (Fk : FnG X.prog X.w X.K X.mg X.base (L2.CX X.prog X.w) k f fd ps (spF X.K 2 ff)) (hr : RmG (k + 9) X.A) (hb : Binds X.K fd ps []) (hl : ∀ as R Y, ff as R Y → as.length = 2) : OpR X (compareOp .NotEq) (Op2 X.K (oEqL true C ff)) := by
  intro pins s σ H x y u v Q I rx ry h
  obtain ⟨F, d, e, P, sF, r1, r2, ⟨n, b, hn8, hq, hP⟩, kk⟩ := h
  show wpAny (model X.prog X.w) X.A (richCompare .NotEq u v) (EP X pins σ Q) X.xe s
  have g := rn_lst (mon_DX n) (eq_DX O hn Fk hb hl n)
  refine wpAny_mono (g X.A pins s σ H x y u v b (hr.mono (by omega)) rfl I rx ry (lstX_DX sF n hq r1 r2)) (fun r s' z => ?_) fun _ _ x => x
  obtain ⟨hr', H', I', e⟩ := z
  subst hr'
  exact ⟨.bl (!b), H', I', rfl, kk (.bl (!b)) hP _ F H' ⟨Same.refl _, sF.trans e, e, fun a o h => .inl h⟩ rfl⟩
end
end L3

set_option Elab.async false
set_option linter.all false
set_option maxRecDepth 100000
set_option maxHeartbeats 1000000
/-! zip of three lists -/
namespace RZ3
open PySem PySem.Spec PyProof.Rows L2
/-- the lists at a, b, c as they stand at each turn, the items in new tuples -/
def Itz3 (K : PySem.W.Frag) (a b c : Addr) : It :=
  ⟨fun i H => ∃ (xs ys zs : List V) (x y u : V), SqL K H a xs ∧ SqL K H b ys ∧ SqL K H c zs ∧ xs[i]? = some x ∧ ys[i]? = some y ∧ zs[i]? = some u,
    fun i H v H' => ∃ T x y u, v = .ref T ∧ H T = none ∧ H' = upd H T (.tup [x, y, u]) ∧ (∀ xs, SqL K H a xs → xs[i]? = some x) ∧ (∀ ys, SqL K H b ys → ys[i]? = some y) ∧ ∀ zs, SqL K H c zs → zs[i]? = some u,
    fun i H => ∃ xs ys zs : List V, SqL K H a xs ∧ SqL K H b ys ∧ SqL K H c zs ∧ i ≤ xs.length ∧ i ≤ ys.length ∧ i ≤ zs.length ∧ (i = xs.length ∨ i = ys.length ∨ i = zs.length)⟩
theorem turn_zip3 {P : Program} {w : World} {K : PySem.W.Frag} {elts : List Expr} {kk : Nat} {tpos : Pos} {a b c z TI TO i1 i2 i3 : Addr} (D : ZipSep3 z TI TO i1 i2 i3 [i1, a] [i2, b] [i3, c]) (na : a ≠ i1) (nb : b ≠ i2) (nc : c ≠ i3) :
    Turn P w K (.Tuple elts kk tpos) (Itz3 K a b c) [z, TI, TO, i1, i2, i3] z (fun i h => IsZip h z TI TO .none ∧ IsTupOf3 h TI (.ref i1) (.ref i2) (.ref i3) ∧ (∃ x y u, IsTupOf3 h TO x y u) ∧ h.IsListIter i1 a i ∧ h.IsListIter i2 b i ∧ h.IsListIter i3 c i) where
  mem := by simp
  obj := fun i h st cc hc => by
    obtain ⟨hz, hTI, ⟨x, y, u, hTO⟩, ⟨o1, e1, _, d1⟩, ⟨o2, e2, _, d2⟩, ⟨o3, e3, _, d3⟩⟩ := st
    have e' : cc = z ∨ cc = TI ∨ cc = TO ∨ cc = i1 ∨ cc = i2 ∨ cc = i3 := by simpa using hc
    rcases e' with q | q | q | q | q | q
    · rw [q]; exact ⟨_, hz, fun v q => nomatch q⟩
    · rw [q]; exact ⟨_, hTI, fun v q => nomatch q⟩
    · rw [q]; exact ⟨_, hTO, fun v q => nomatch q⟩
    · rw [q]; exact ⟨o1, e1, fun v q => by rw [d1] at q; cases q⟩
    · rw [q]; exact ⟨o2, e2, fun v q => by rw [d2] at q; cases q⟩
    · rw [q]; exact ⟨o3, e3, fun v q => by rw [d3] at q; cases q⟩
  keep := fun i h h' st k => by
    obtain ⟨hz, hTI, ⟨x, y, u, hTO⟩, h1, h2, h3⟩ := st
    exact ⟨k z (by simp) _ hz, k TI (by simp) _ hTI, ⟨x, y, u, k TO (by simp) _ hTO⟩, h1.at fun o q => k i1 (by simp) o q, h2.at fun o q => k i2 (by simp) o q, h3.at fun o q => k i3 (by simp) o q⟩
  item := by
    intro X hP hw hK hc i pins s σ H E I hf st hg
    subst hP hw hK
    obtain ⟨hz, hTI, ⟨x0, y0, u0, hTO⟩, h1, h2, h3⟩ := st
    obtain ⟨xs, ys, zs, x, y, u, hqx, hqy, hqz, hx, hy, hu⟩ := hg
    obtain ⟨its, rv, p, _⟩ := I.list hqx
    obtain ⟨its2, rv2, p2, _⟩ := I.list hqy
    obtain ⟨its3, rv3, p3, _⟩ := I.list hqz
    obtain ⟨v1, hv1, ru1⟩ := rv.get hx
    obtain ⟨v2, hv2, ru2⟩ := rv2.get hy
    obtain ⟨v3, hv3, ru3⟩ := rv3.get hu
    have hzl : z < s.heap.objs.size := Heap.lt_size hz
    have hh := I.ok.hd hc
    have D1 := Draws.list (prog := X.prog) (w := X.w) (A := X.A.in1) hh i1 a na its.toArray
    have D2 := Draws.list (prog := X.prog) (w := X.w) (A := X.A.in1) hh i2 b nb its2.toArray
    have D3 := Draws.list (prog := X.prog) (w := X.w) (A := X.A.in1) hh i3 c nc its3.toArray
    have q1 : i < its.toArray.size := by simpa using (List.getElem?_eq_some_iff.mp hv1).1
    have q2 : i < its2.toArray.size := by simpa using (List.getElem?_eq_some_iff.mp hv2).1
    have q3 : i < its3.toArray.size := by simpa using (List.getElem?_eq_some_iff.mp hv3).1
    refine wpAny_pyNext_zipD3_item D D1 D2 D3 hz hTI hTO ⟨h1, p.isList⟩ ⟨h2, p2.isList⟩ ⟨h3, p3.isList⟩ q1 q2 q3 fun x1 x2 x3 h' tk e1 e2 e3 z' TO' h1' h2' h3' hT hsz hk => ?_
    have e1 : x1 = v1 := by
      have e1 : its.toArray[i]? = some x1 := e1
      rw [List.getElem?_toArray, hv1] at e1; exact (Option.some.inj e1).symm
    have e2 : x2 = v2 := by
      have e2 : its2.toArray[i]? = some x2 := e2
      rw [List.getElem?_toArray, hv2] at e2; exact (Option.some.inj e2).symm
    have e3 : x3 = v3 := by
      have e3 : its3.toArray[i]? = some x3 := e3
      rw [List.getElem?_toArray, hv3] at e3; exact (Option.some.inj e3).symm
    subst e1 e2 e3
    refine ⟨_, rfl, wpAny_letOwnedTupleGo_zip (s := { s with heap := h', toks := tk }) z' fun h'' z'' sb => ?_⟩
    have hT2 : h''.get? s.heap.objs.size = some { cls := .type "tuple", data := .seq #[x1, x2, x3] } := (sb.2 _ (Nat.ne_of_gt hzl)).trans hT
    have new : ObjOk X.prog X.w (upd H s.heap.objs.size (.tup [x, y, u])) h'' s.heap.objs.size (.tup [x, y, u]) :=
      ⟨by show 3 ≤ sizeLine; decide, [x1, x2, x3], .cons ru1 (.cons ru2 (.cons ru3 .nil)), ⟨_, hT2, rfl, _, rfl⟩⟩
    have I1 : Inv X pins σ (upd H s.heap.objs.size (.tup [x, y, u])) { s with heap := h'', toks := tk } :=
      I.turnedNew (t' := tk) (ch := [z, TI, TO, i1, i2, i3]) (fun cc o hb q => (sb.2 cc (fun q' => hb (by simp [q']))).trans (hk cc o (fun q' => hb (by simp [q'])) (fun q' => hb (by simp [q'])) (fun q' => hb (by simp [q'])) (fun q' => hb (by simp [q'])) (fun q' => hb (by simp [q'])) q)) hf (Nat.le_refl _) new
    refine ⟨.ref s.heap.objs.size, _, I1, rfl, ⟨_, x, y, u, rfl, I.hok.fresh (Nat.le_refl _), rfl, fun l hl => by rw [I.list_inj hl hqx]; exact hx, fun l hl => by rw [I.list_inj hl hqy]; exact hy, fun l hl => by rw [I.list_inj hl hqz]; exact hu⟩, ⟨z'', ?_, ⟨x1, x2, x3, ?_⟩, ?_, ?_, ?_⟩, fun cc hcm => ?_⟩
    · exact (sb.2 _ D.TIz).trans (hk _ _ D.TIz D.TITO D.TIi1 D.TIi2 D.TIi3 hTI)
    · exact (sb.2 _ D.TOz).trans TO'
    · exact h1'.1.at fun o q => (sb.2 _ D.zi1.symm).trans q
    · exact h2'.1.at fun o q => (sb.2 _ D.zi2.symm).trans q
    · exact h3'.1.at fun o q => (sb.2 _ D.zi3.symm).trans q
    · have hlt : cc < s.heap.objs.size := by
        have e' : cc = z ∨ cc = TI ∨ cc = TO ∨ cc = i1 ∨ cc = i2 ∨ cc = i3 := by simpa using hcm
        rcases e' with q | q | q | q | q | q
        · rw [q]; exact hzl
        · rw [q]; exact Heap.lt_size hTI
        · rw [q]; exact Heap.lt_size hTO
        · rw [q]; obtain ⟨_, e1, _⟩ := h1; exact Heap.lt_size e1
        · rw [q]; obtain ⟨_, e2, _⟩ := h2; exact Heap.lt_size e2
        · rw [q]; obtain ⟨_, e3, _⟩ := h3; exact Heap.lt_size e3
      rw [upd_ne (Nat.ne_of_lt hlt)]
      exact (hf cc hcm).1
  done := by
    intro X hP hw hK hc i pins s σ H E I hf st hg
    subst hP hw hK
    obtain ⟨hz, hTI, ⟨x0, y0, u0, hTO⟩, h1, h2, h3⟩ := st
    obtain ⟨xs, ys, zs, hqx, hqy, hqz, b1, b2, b3, hend⟩ := hg
    obtain ⟨its, rv, p, _⟩ := I.list hqx
    obtain ⟨its2, rv2, p2, _⟩ := I.list hqy
    obtain ⟨its3, rv3, p3, _⟩ := I.list hqz
    have k1 := rv.length
    have k2 := rv2.length
    have k3 := rv3.length
    have hh := I.ok.hd hc
    have D1 := Draws.list (prog := X.prog) (w := X.w) (A := X.A.in1) hh i1 a na its.toArray
    have D2 := Draws.list (prog := X.prog) (w := X.w) (A := X.A.in1) hh i2 b nb its2.toArray
    have D3 := Draws.list (prog := X.prog) (w := X.w) (A := X.A.in1) hh i3 c nc its3.toArray
    exact wpAny_pyNext_zipD3_end D D1 D2 D3 hz hTI hTO ⟨h1, p.isList⟩ ⟨h2, p2.isList⟩ ⟨h3, p3.isList⟩ (by simp; omega) (by simp; omega) (by simp; omega) (by simp; omega) fun h' tk hk => ⟨rfl, I.turnedL (t' := tk) (ch := [z, TI, TO, i1, i2, i3]) (fun cc o hb q =>
      hk cc o (fun q' => hb (by simp [q'])) (fun q' => hb (by simp [q'])) (fun q' => hb (by simp [q'])) (fun q' => hb (by simp [q'])) (fun q' => hb (by simp [q'])) q) hf⟩
  self := fun A i s Q E st h => wpAny_pyIter_zip st.1 h
def iZip3 (K : PySem.W.Frag) (ta : TA) : TI := fun σ H R => ta σ H fun vs H1 => ∃ a b c xs ys zs, vs = [.ref a, .ref b, .ref c] ∧ SqL K H1 a xs ∧ SqL K H1 b ys ∧ SqL K H1 c zs ∧ R (Itz3 K a b c) H1
theorem pi_zip3 {X : Cx} {e e2 e3 : Expr} {ta : TA} {p pos tpos : Pos} {elts : List Expr} {kk : Nat} (hg : Gl X "zip") (hm : X.mg "zip" = none) (ha : PA X [e, e2, e3] ta)
    (hs : starEach [e, e2, e3] X.env = (false, eval e X.env) :: starEach [e2, e3] X.env := by rfl) (hpl : (backTo pos (starEach [e2, e3] X.env)).any (·.1) = false := by rfl) :
    PI X (.Tuple elts kk tpos) (.Call (.Name "zip" p) [e, e2, e3] [] pos) (iZip3 X.K ta) := by
  refine ⟨fun pins s σ H R I h => ?_⟩
  refine Call_ (ld_blt I hg hm PyProof.Rows.boot_zip (PyProof.Rows.callWith_type1 (thn (ha.run pos pins s σ H _ I h) fun us s1 ⟨vs, H1, I1, r1, q1⟩ => ?_) hs hpl))
  obtain ⟨a, b, c, xs, ys, zs, ex, hqx, hqy, hqz, q⟩ := q1
  subst ex
  cases r1 with
  | cons r rr =>
    cases rr with
    | cons r' rr =>
      cases rr with
      | cons r'' rr =>
        cases rr
        cases r
        cases r'
        cases r''
        obtain ⟨its, rv, p1, _⟩ := I1.list hqx
        obtain ⟨its2, rv2, p2, _⟩ := I1.list hqy
        obtain ⟨its3, rv3, p3, _⟩ := I1.list hqz
        have la : a < s1.heap.objs.size := p1.lt
        have lb : b < s1.heap.objs.size := p2.lt
        have lc : c < s1.heap.objs.size := p3.lt
        refine zip_begins3 (begins_list a its.toArray) (begins_list b its2.toArray) (begins_list c its3.toArray) p1.isList p2.isList p3.isList fun h' hz hTI hTO h1 h2 h3 hsz hk => wpAny_pyIter_zip hz ?_
        have I2 : Inv X pins σ H1 { s1 with heap := h' } := I1.kept (t' := s1.toks) hk
        have sep := zip_sep3 (N := s1.heap.objs.size) (fp1 := [a]) (fp2 := [b]) (fp3 := [c]) (fun y hy => by rw [List.mem_singleton.mp hy]; exact la) (fun y hy => by rw [List.mem_singleton.mp hy]; exact lb) (fun y hy => by rw [List.mem_singleton.mp hy]; exact lc)
        refine ⟨s1.heap.objs.size + 5, [s1.heap.objs.size + 5, s1.heap.objs.size + 3, s1.heap.objs.size + 4, s1.heap.objs.size, s1.heap.objs.size + 1, s1.heap.objs.size + 2], _, _, H1, rfl, I2, turn_zip3 sep (Nat.ne_of_lt la) (Nat.ne_of_lt (Nat.lt_succ_of_lt lb)) (Nat.ne_of_lt (Nat.lt_of_lt_of_le lc (Nat.le_add_right _ _))), ⟨hz, hTI, ⟨_, _, _, hTO⟩, ⟨_, h1, rfl, rfl⟩, ⟨_, h2, rfl, rfl⟩, ⟨_, h3, rfl, rfl⟩⟩, fun cc hcm => ?_, q⟩
        have e' : cc = s1.heap.objs.size + 5 ∨ cc = s1.heap.objs.size + 3 ∨ cc = s1.heap.objs.size + 4 ∨ cc = s1.heap.objs.size ∨ cc = s1.heap.objs.size + 1 ∨ cc = s1.heap.objs.size + 2 := by simpa using hcm
        have hle : s1.heap.objs.size ≤ cc := by
          rcases e' with z | z | z | z | z | z
          · rw [z]; exact Nat.le_add_right _ _
          · rw [z]; exact Nat.le_add_right _ _
          · rw [z]; exact Nat.le_add_right _ _
          · rw [z]; exact Nat.le_refl _
          · rw [z]; exact Nat.le_add_right _ _
          · rw [z]; exact Nat.le_add_right _ _
        exact I1.fpOk hle (I1.hok.fresh hle)
end RZ3
namespace L3
open PySem L2 RZ3
section
variable {X : Cx}
def z3 (xs ys zs : List D) : List D := (xs.zip (ys.zip zs)).map fun p => D.tup [p.1, p.2.1, p.2.2]
/-- zip of three lists -/
def wZip3 (u : Wa) : Wi := fun δ Q Y => u δ (fun as δ1 => ∃ xs ys zs, trees as = some [.lst xs, .lst ys, .lst zs] ∧ Q (z3 xs ys zs) δ1) Y
theorem itD_zip3 {K : PySem.W.Frag} {F : Hp} {l m n : Addr} {vs us ws : List V} {xs ys zs : List D} (h : SqL K F l vs) (h' : SqL K F m us) (h'' : SqL K F n ws) (r : Reps K F xs vs) (r' : Reps K F ys us) (r'' : Reps K F zs ws) : ItD K (Itz3 K l m n) (z3 xs ys zs) F := fun F' H' s1 s2 => by
  have hl := r.length
  have hl' := r'.length
  have hl'' := r''.length
  have q : SqL K H' l vs := Same.seq s2 (Same.seq s1 h)
  have q' : SqL K H' m us := Same.seq s2 (Same.seq s1 h')
  have q'' : SqL K H' n ws := Same.seq s2 (Same.seq s1 h'')
  have hlen : (z3 xs ys zs).length = min xs.length (min ys.length zs.length) := by unfold z3; rw [List.length_map, List.length_zip, List.length_zip]
  refine ⟨⟨vs, us, ws, q, q', q'', ?_⟩, fun i d hd => ?_⟩
  · rw [hlen]; omega
  · unfold z3 at hd
    rw [List.getElem?_map] at hd
    cases h0 : (xs.zip (ys.zip zs))[i]? with
    | none => rw [h0] at hd; cases hd
    | some p =>
      rw [h0] at hd
      cases hd
      obtain ⟨d1, d2, d3⟩ := p
      obtain ⟨e1, e23⟩ := List.getElem?_zip_eq_some.mp h0
      obtain ⟨e2, e3⟩ := List.getElem?_zip_eq_some.mp e23
      obtain ⟨v1, hv1, rv1⟩ := r.get e1
      obtain ⟨v2, hv2, rv2⟩ := r'.get e2
      obtain ⟨v3, hv3, rv3⟩ := r''.get e3
      refine ⟨⟨vs, us, ws, v1, v2, v3, q, q', q'', hv1, hv2, hv3⟩, fun y H2 hy => ?_⟩
      obtain ⟨T, x1, y1, u1, e, nT, e2, z1, z2, z3⟩ := hy
      subst e e2
      have a1 := z1 vs q
      have a2 := z2 us q'
      have a3 := z3 ws q''
      rw [hv1] at a1
      rw [hv2] at a2
      rw [hv3] at a3
      cases a1
      cases a2
      cases a3
      have ex := Ext.new1 (o := .tup [v1, v2, v3]) s2 nT
      exact ⟨_, ex, T, [v1, v2, v3], rfl, .inl (.inl upd_same), Reps.cons ((rv1.mono s1).mono ex.ff) (Reps.cons ((rv2.mono s1).mono ex.ff) (Reps.cons ((rv3.mono s1).mono ex.ff) rfl))⟩
theorem xi_zip3 {W : WX} {a b e : Expr} {pos p : Pos} {u : Wa} {elts : List Expr} {kk : Nat} {tpos : Pos} (ha : PA X [a, b, e] (TrA X.K W u)) (hm : X.mg "zip" = none) (hg : Gl X "zip" := by rfl)
    (hs : starEach [a, b, e] X.env = (false, eval a X.env) :: starEach [b, e] X.env := by rfl) (hpl : (backTo pos (starEach [b, e] X.env)).any (·.1) = false := by rfl) :
    PI X (.Tuple elts kk tpos) (.Call (.Name "zip" p) [a, b, e] [] pos) (TrI X.K W (wZip3 u)) := pi_imp (pi_zip3 hg hm ha hs hpl) fun σ H R h => by
  obtain ⟨bb, δ, F, Po, Px, wf, r, q, k, kx⟩ := h
  refine ⟨bb, δ, F, _, _, wf, r, q, fun as δ1 q1 vs F1 H1 wf1 s1 r1 ra => ?_, kx⟩
  obtain ⟨xs, ys, zs, hds, q2⟩ := q1
  obtain ⟨v, w, x, rfl, rv, rw', rx⟩ := reps3 (reps_of ra hds)
  obtain ⟨l, vl, rfl, hl, rl⟩ := rv
  obtain ⟨m, um, rfl, hm', rm⟩ := rw'
  obtain ⟨n, xn, rfl, hn, rn⟩ := rx
  exact ⟨l, m, n, vl, um, xn, rfl, Same.seq wf1.fh hl, Same.seq wf1.fh hm', Same.seq wf1.fh hn, k _ δ1 q2 _ F1 H1 wf1 s1 r1 (itD_zip3 hl hm' hn rl rm rn)⟩
theorem r_zip3 {δ : List S} {u : Wa} {QI : List D → List S → Prop} {Y : Er → List S → Prop} (h : u δ (fun as δ1 => ∃ xs ys zs, trees as = some [.lst xs, .lst ys, .lst zs] ∧ QI (z3 xs ys zs) δ1) Y) : wZip3 u δ QI Y := h
end
end L3

set_option Elab.async false
set_option linter.all false
set_option maxRecDepth 100000
set_option maxHeartbeats 1000000
/-! for a, b, *c in ..: a tuple whose last items become a new list -/
namespace RSt
open PySem PySem.Spec PyProof.Rows L2
open Sem (wp)
theorem walks_from {prog : Program} {w : World} {A : Around} (hh : A.handled = none) (I ax : Addr) (hne : ax ≠ I) (items : Array Value) (i0 : Nat) (hi0 : i0 ≤ items.size) :
    Walks prog w A I [I, ax] [I] (items.size - i0) (fun j v => items[i0 + j]? = some v) (fun j h => h.IsTupleIter I ax (i0 + j) ∧ h.IsTuple ax items) where
  sub := fun b hb => by simp at hb; simp [hb]
  frame := fun _ _ _ st hk => ⟨st.1.at fun o e => hk I (by simp) o e, st.2.at fun o e => hk ax (by simp) o e⟩
  item := fun j s Q E hi st hQ => by
    have hlt : i0 + j < items.size := by omega
    refine wpAny_pyNext_tuple_item st.1 st.2 (x := items[i0 + j]) (by simp [hlt]) fun h' hit' hs' => ?_
    exact hQ _ h' s.toks (by simp [hlt]) ⟨hit', st.2.extBut hs'.extBut hne⟩ fun b o hb e => hs'.extBut b o (fun h => hb (by simp [h])) e
  done := fun s Q E st hQ => by
    have e : i0 + (items.size - i0) = items.size := by omega
    refine wpAny_pyNext_tuple_end hh st.1 st.2 (by rw [e]; simp) fun h' he' => hQ h' s.toks fun b o hb e => he' b o (fun h => hb (by simp [h])) e
  self := fun _ _ _ _ st hQ => wpAny_pyIter_tupleiter st.1 hQ
section
variable {prog : Program} {w : World} {A : Around} {E : Value → Shared → Prop} {s : Shared}
theorem unpack_star {t : Addr} {items : Array Value} {i : Nat} {Q : List Value → Shared → Prop} (hh : A.handled = none) (hh1 : A.in1.handled = none) (ht : s.heap.IsTuple t items) (hi : i ≤ items.size) (hz : items.size ≤ sizeLine)
    (hQ : ∀ (h' : Heap) tk, (∀ b o, s.heap.get? b = some o → h'.get? b = some o) → s.toks ≤ tk →
      Q (items.toList.take i ++ [.ref h'.objs.size]) { s with heap := h'.push { cls := .type "list", data := .seq (items.toList.drop i).toArray }, toks := tk }) :
    wpAny (model prog w) A (unpackItems (.ref t) (i + 1) (some i)) Q E s := by
  have hlt : t ≠ s.heap.objs.size := by obtain ⟨o, ho, _⟩ := ht; exact Nat.ne_of_lt (Heap.lt_size ho)
  have htl : t < s.heap.objs.size := by obtain ⟨o, ho, _⟩ := ht; exact Heap.lt_size ho
  unfold unpackItems
  refine wpAny_bind ?_
  unfold notIterableAtAll
  refine wpAny_bind (wpAny_specialOf ht.typeIs F.slot_tuple_iter.lookup ?_)
  refine wpAny_pure ?_
  simp only [Bool.false_eq_true, if_false]
  refine wpAny_bind (wpAny_holding (wpAny_pyIter_tuple ht ?_))
  refine wpAny_bind (wpAny_holding (wpAny_draw_tuple hlt i 0 _ _ ⟨_, Heap.get?_push_size _ rfl, rfl, rfl⟩ (ht.push _) (by omega) fun h1 hit1 hs1 => ?_))
  rw [List.drop_zero]
  have hl : (List.take i items.toList).length = i := by rw [List.length_take]; simp; omega
  rw [if_neg (by rw [hl]; omega)]
  have ht1 : h1.IsTuple t items := (ht.push _).extBut hs1.extBut hlt
  have keep1 : ∀ b o, s.heap.get? b = some o → h1.get? b = some o := fun b o e => hs1.extBut b o (Nat.ne_of_lt (Heap.lt_size e)) (Heap.get?_push_of_some _ e)
  have szI : s.heap.objs.size < h1.objs.size := by obtain ⟨o, ho, _⟩ := hit1; exact Heap.lt_size ho
  have hit2 : h1.IsTupleIter s.heap.objs.size t (i + 0) := by rw [Nat.zero_add] at hit1; exact hit1
  refine wpAny_bind (wpAny_holding (wpAny_collect_iter (T := "tuple_iterator") (.inr (.inr (.inr rfl))) (walks_from hh1 s.heap.objs.size t hlt items i hi).toS (fun j s' st => st.1.typeIs) ⟨hit2, ht1⟩ (fun b hb => ?_) (by simp) (fun s' acc hm ha => ?_) (by omega)))
  · have : b = s.heap.objs.size ∨ b = t := by simpa using hb
    rcases this with z | z
    · rw [z]; exact szI
    · rw [z]; exact Nat.lt_trans htl szI
  · have ea : acc.toList = items.toList.drop i := by
      refine List.ext_getElem? fun j => ?_
      rw [List.getElem?_drop]
      by_cases c : j < acc.size
      · have h1 : acc.toList[j]? = some acc[j] := by simp [c]
        have := ha.2 j acc[j] (by simp [c])
        rw [h1]
        simpa using this.symm
      · have e1 : acc.toList[j]? = none := by simp; omega
        have e2 : items.toList[i + j]? = none := by have := ha.1; simp; omega
        rw [e1, e2]
    rw [ea]
    have e0 : i + 1 - 1 - i = 0 := by omega
    rw [e0, if_neg (by omega)]
    have e1 : (items.toList.drop i).length - 0 = (items.toList.drop i).length := by omega
    refine wpAny_bind ?_
    rw [e1, List.take_length, List.drop_length]
    refine wpAny_newList ?_ (by rw [List.length_drop]; simp; omega)
    refine wpAny_pure ?_
    rw [List.append_nil]
    obtain ⟨hp, hg, hd, ho, htk⟩ := hm
    have keep2 : ∀ b o, s.heap.get? b = some o → s'.heap.get? b = some o := fun b o e => hp b o (by simpa using Nat.ne_of_lt (Heap.lt_size e)) (keep1 b o e)
    have := hQ s'.heap s'.toks keep2 htk
    cases s'
    cases hg; cases hd; cases ho
    exact this
end
/-- (a, .., *c) = a tuple of at least n items: the last become a new list -/
def gStar (K : PySem.W.Frag) (n : Nat) (t : TGs) : TG := fun v σ H Q => ∃ a xs, v = .ref a ∧ SqT K H a xs ∧ n ≤ xs.length ∧ ∀ p, H p = none → t (xs.take n ++ [.ref p]) σ (upd H p (.lst (xs.drop n))) Q
section
variable {X : Cx} {pos p2 : Pos}
theorem pgs_consS {e : Expr} {es : List Expr} {t : TG} {u : TGs} (h1 : PG X e t) (h2 : PGs X es u)
    (hs : (assignEach (.Starred e p2 :: es) X.env).map (·.2) = assign e X.env :: (assignEach es X.env).map (·.2) := by rfl) : PGs X (.Starred e p2 :: es) (gCons t u) := by
  refine ⟨fun pins s σ H vs us Q I r h => ?_⟩
  obtain ⟨v, vr, e1, h⟩ := h
  subst e1
  cases r with
  | cons r rr =>
    rw [hs]
    refine assignInOrder_cons (thn (h1.run pins s σ H _ _ _ I r h) fun _ s1 ⟨σ1, H1, I1, q1⟩ => ?_)
    exact h2.run pins s1 σ1 H1 _ _ Q I1 rr q1
theorem vals_split {xs : List V} {us : List Value} (h : Vals xs us) : ∀ n, Vals (xs.take n) (us.take n) ∧ Vals (xs.drop n) (us.drop n) := by
  induction h with
  | nil => intro n; rw [List.take_nil, List.take_nil, List.drop_nil, List.drop_nil]; exact ⟨.nil, .nil⟩
  | cons r rr ih =>
    intro n
    cases n with
    | zero => exact ⟨.nil, .cons r rr⟩
    | succ n => exact ⟨.cons r (ih n).1, (ih n).2⟩
theorem vals_app {xs ys : List V} {us ws : List Value} (h : Vals xs us) (h' : Vals ys ws) : Vals (xs ++ ys) (us ++ ws) := by
  induction h with
  | nil => exact h'
  | cons r rr ih => exact .cons r ih
theorem pg_star {es : List Expr} {k : Nat} {t : TGs} {n : Nat} (hc : X.calm = true) (h : PGs X es t)
    (hn : (assignEach es X.env).length = n + 1 := by rfl) (hst : (assignEach es X.env).findIdx? (·.1) = some n := by rfl) : PG X (.Tuple es k pos) (gStar X.K n t) := by
  refine ⟨fun pins s σ H v u Q I r hw => ?_⟩
  obtain ⟨a, xs, e1, hq, hl, hw⟩ := hw
  subst e1
  cases r
  obtain ⟨its, rv, ht, hz⟩ := I.tuple hq
  rw [PyProof.Rows.assign_Tuple]
  refine wpAny_bind (wpAny_standAt ?_)
  unfold unpack
  rw [hn, hst]
  have lr := rv.length
  have hh := I.ok.hd hc
  refine wpAny_bind (wpAny_holding (unpack_star hh hh (by obtain ⟨o, h1, h2, n, h3⟩ := ht; exact ⟨o, h1, h2, n, h3⟩) (by simp; omega) (by simp; omega) fun h' tk hk htk => ?_))
  have I1 : Inv X pins σ H { s with heap := h', toks := tk } := I.kept hk
  have hf : H h'.objs.size = none := I1.hok.fresh (Nat.le_refl _)
  obtain ⟨v1, v2⟩ := vals_split rv n
  have new : ObjOk X.prog X.w (upd H h'.objs.size (.lst (xs.drop n))) (h'.push { cls := .type "list", data := .seq (its.drop n).toArray }) h'.objs.size (.lst (xs.drop n)) :=
    ⟨by rw [List.length_drop]; omega, its.drop n, 0, v2, Heap.get?_push_size _ rfl⟩
  have I2 := I1.laid (t' := tk) (fun b u e => Heap.get?_push_of_some _ e) (Nat.le_refl _) new
  have := h.run pins _ σ _ (xs.take n ++ [.ref h'.objs.size]) (its.take n ++ [.ref h'.objs.size]) Q I2 (vals_app v1 (.cons (show RelV (.ref h'.objs.size) (.ref h'.objs.size) from rfl) .nil)) (hw _ hf)
  simpa using this
end
end RSt
namespace L3
open PySem L2 RSt
section
variable {X : Cx} {K : PySem.W.Frag} {W : WX} {e tg : Expr} {es : List Expr} {pos p2 : Pos}
/-- targets that may make something new -/
def TrE (K : PySem.W.Frag) (w : Wg) : TG := fun v σ H Q => ∃ b δ F d Po, Wf b F H ∧ Rs K b δ σ F H ∧ Rep K F d v ∧ w d δ Po ∧ ∀ δ', Po δ' → ∀ σ' F' H', Wf b F' H' → Same F F' → Rs K b δ' σ' F' H' → Q σ' H'
theorem xgs_star {u : Wg} {w : Wgs} {ts us : List Nat} (h1 : PG X e (TrG K ts u)) (h2 : PGs X es (TrGs K us w)) (hs : (assignEach (.Starred e p2 :: es) X.env).map (·.2) = assign e X.env :: (assignEach es X.env).map (·.2) := by rfl) : PGs X (.Starred e p2 :: es) (TrGs K (ts ++ us) (wgCons u w)) := pgs_imp (pgs_consS h1 h2 hs) fun v σ H Q h => by
  obtain ⟨b, δ, F, ds, Po, wf, r, rv, ⟨d, rest, rfl, q⟩, k⟩ := h
  obtain ⟨v1, vr, rfl, r1, r2⟩ := rv
  exact ⟨v1, vr, rfl, b, δ, F, d, _, wf, r, r1, q, fun δ1 q1 σ1 o1 rs1 => ⟨b, δ1, F, rest, _, wf, rs1, r2, q1, fun δ2 q2 σ2 o2 rs2 => k _ q2 σ2 ⟨o2.1.trans o1.1, fun j hj => (o2.2 j fun z => hj (List.mem_append_right _ z)).trans (o1.2 j fun z => hj (List.mem_append_left _ z))⟩ rs2⟩⟩
def wgStar (n : Nat) (w : Wgs) : Wg := fun d δ Q => ∃ ds, d = .tup ds ∧ n ≤ ds.length ∧ w (ds.take n ++ [.lst (ds.drop n)]) δ Q
theorem reps_split {F : Hp} : ∀ {ds : List D} {vs : List V}, Reps K F ds vs → ∀ n, Reps K F (ds.take n) (vs.take n) ∧ Reps K F (ds.drop n) (vs.drop n)
  | [], vs, h, n => by
    cases (show vs = [] from h)
    rw [List.take_nil, List.take_nil, List.drop_nil, List.drop_nil]; exact ⟨rfl, rfl⟩
  | d :: ds, vs, h, n => by
    obtain ⟨v, us, rfl, h1, h2⟩ := h
    cases n with
    | zero => exact ⟨rfl, ⟨v, us, rfl, h1, h2⟩⟩
    | succ n => exact ⟨⟨v, _, rfl, h1, (reps_split h2 n).1⟩, (reps_split h2 n).2⟩
theorem reps_app {F : Hp} : ∀ {ds es : List D} {vs us : List V}, Reps K F ds vs → Reps K F es us → Reps K F (ds ++ es) (vs ++ us)
  | [], es, vs, us, h, h' => by cases (show vs = [] from h); exact h'
  | d :: ds, es, vs, us, h, h' => by
    obtain ⟨v, ws, rfl, h1, h2⟩ := h
    exact ⟨v, _, rfl, h1, reps_app h2 h'⟩
theorem xe_star {w : Wgs} {n k0 : Nat} {ts : List Nat} (hc : X.calm = true) (h : PGs X es (TrGs X.K ts w)) (hn : (assignEach es X.env).length = n + 1 := by rfl) (hst : (assignEach es X.env).findIdx? (·.1) = some n := by rfl) : PG X (.Tuple es k0 pos) (TrE X.K (wgStar n w)) := pg_imp (pg_star hc h hn hst) fun v σ H Q h => by
  obtain ⟨b, δ, F, d, Po, wf, r, rv, ⟨ds, rfl, hl, q⟩, k⟩ := h
  obtain ⟨a, vs, rfl, h1, h2⟩ := rv
  refine ⟨a, vs, rfl, seqT wf.fh h1, by rw [h2.length]; exact hl, fun p np => ?_⟩
  have ex := Ext.new1 (o := .lst (vs.drop n)) wf.fh np
  obtain ⟨s1, s2⟩ := reps_split (h2.mono ex.ff) n
  have rl : Reps X.K (upd F p (.lst (vs.drop n))) [D.lst (ds.drop n)] [V.ref p] := ⟨_, _, rfl, ⟨p, vs.drop n, rfl, .inl (.inl upd_same), s2⟩, rfl⟩
  exact ⟨b, δ, upd F p (.lst (vs.drop n)), _, _, wf.ext ex, r.ext ex, reps_app s1 rl, q, fun δ' q' σ' _ r' => k δ' q' σ' _ _ (wf.ext ex) ex.ff r'⟩
theorem s_forE {wi : Wi} {g : Wg} {w : Ws} {iter : Expr} {body : List Stmt} (hp : PassesOwn (model X.prog X.w) X.A X.env X.xe) (hc : X.calm = true) (hi : PI X tg iter (TrI K W wi)) (hg : PG X tg (TrE K g)) (hb : PSs X body (TrS K W w))
    (hs : ∀ x, foldedSetIterable iter X.env x = pure x := by intro _; rfl) : PS X (.For tg iter body [] pos) (TrS K W (wFor wi g w)) := ps_imp (ps_for hp hc hi hg hb hs) fun Dn σ H h => by
  obtain ⟨b, δ, F, E, wf, r, q, k1, k2, k3, k4, k5⟩ := h
  refine ⟨b, δ, F, _, _, wf, r, q, fun items δ1 q1 J F1 H1 wf1 s1 r1 it => ?_, k5_of k5⟩
  refine ⟨fun i m σ' H' => ∃ δ' F', Wf b F' H' ∧ Same F1 F' ∧ Rs K b δ' σ' F' H' ∧ i ≤ items.length ∧ m = items.length - i ∧ loopD g w E (items.drop i) δ', ⟨_, δ1, F1, wf1, Same.refl _, r1, Nat.zero_le _, rfl, q1⟩, ?_⟩
  rintro i m σ' H' ⟨δ', F', wf', s', r', hi', rfl, lp⟩
  obtain ⟨st, go⟩ := it F' H' s' wf'.fh
  by_cases hlt : i < items.length
  · refine .inr ?_
    have hd : items[i]? = some items[i] := List.getElem?_eq_getElem hlt
    obtain ⟨g1, g2⟩ := go i _ hd
    refine ⟨g1, fun σ2 H2 => ∃ δ2 F2, Wf b F2 H2 ∧ Same F1 F2 ∧ Rs K b δ2 σ2 F2 H2 ∧ loopD g w E (items.drop (i + 1)) δ2, fun σ2 H2 ⟨δ2, F2, a1, a2, a3, a4⟩ => ⟨items.length - (i + 1), by omega, δ2, F2, a1, a2, a3, hlt, rfl, a4⟩, fun y H'' hy => ?_⟩
    obtain ⟨F'', ex, ry⟩ := g2 y H'' hy
    rw [List.drop_eq_getElem_cons hlt] at lp
    refine ⟨b, δ', F'', _, _, wf'.ext ex, r'.ext ex, ry, lp, fun δ2 q2 σ2 F4 H4 wf4 s4 r2 => ?_⟩
    have t1 : Same F1 F4 := (s'.trans ex.ff).trans s4
    have s2 : Same F F4 := s1.trans t1
    exact ⟨b, δ2, F4, _, wf4, r2, q2, fun δ3 q3 σ3 F3 H3 wf3 s3 r3 => ⟨δ3, F3, wf3, t1.trans s3, r3, q3⟩, fun δ3 q3 σ3 F3 H3 wf3 s3 r3 => k1 δ3 q3 σ3 F3 H3 wf3 (s2.trans s3) r3, fun δ3 q3 σ3 F3 H3 wf3 s3 r3 => ⟨δ3, F3, wf3, t1.trans s3, r3, q3⟩,
      fun rv δ3 q3 v F3 H3 wf3 s3 => k4 rv δ3 q3 v F3 H3 wf3 (s2.trans s3), fun er δ3 q3 σ3 F3 H3 wf3 s3 r3 => k5 er δ3 q3 σ3 F3 H3 wf3 (s2.trans s3) r3⟩
  · have e : i = items.length := by omega
    subst e
    rw [List.drop_length] at lp
    exact .inl ⟨st, k1 δ' lp σ' F' H' wf' (s1.trans s') r'⟩
/-- a, b, *c = e -/
theorem s_asgE {u : Wt} {w : Wg} (he : PE X e (Tr K W u)) (hg : PG X tg (TrE K w)) (hs : swapsWithSole [tg] e pos.line X.env = pure false := by rfl) (hw : swappedStores [tg] e X.env = pure none := by rfl)
    (h1 : (assignEach [tg] X.env).map (·.2) = [assign tg X.env] := by rfl) : PS X (.Assign [tg] e pos) (TrS K W (wAsg u w)) := ps_imp (ps_asg he hg hs hw h1) fun Dn σ H h => by
  obtain ⟨b, δ, F, E, wf, r, q, k1, k2, k3, k4, k5⟩ := h
  exact ⟨b, δ, F, _, _, wf, r, q, fun d δ1 q1 v F1 H1 wf1 s1 r1 rx => ⟨b, δ1, F1, d, _, wf1, r1, rx, q1, fun δ2 q2 σ2 F2 H2 wf2 s2 r2 => k1 _ q2 σ2 F2 H2 wf2 (s1.trans s2) r2⟩, k5_of k5⟩
end
end L3

set_option Elab.async false
set_option linter.all false
set_option maxRecDepth 100000
set_option maxHeartbeats 1000000
/-! a list times a whole number -/
namespace L3
open PySem L2 PyProof.Rows
section
variable {X : Cx} {K : PySem.W.Frag}
def oRepL : O2 := fun d e P => ∃ xs k, d = .lst xs ∧ e = .int k ∧ -1000 ≤ k ∧ k ≤ 1000 ∧ xs.length * k.toNat ≤ 1000 ∧ P (.lst (List.replicate k.toNat xs).flatten)
theorem reps_rep {F : Hp} {ds : List D} {vs : List V} (h : Reps K F ds vs) : ∀ k : Nat, Reps K F (List.replicate k ds).flatten (List.replicate k vs).flatten
  | 0 => rfl
  | k + 1 => by rw [List.replicate_succ, List.replicate_succ, List.flatten_cons, List.flatten_cons]; exact h.append (reps_rep h k)
theorem o_repL : OpR X (binaryOp .Mult) (Op2 X.K oRepL) := fun pins s σ H x y u v Q I rx ry h => by
  obtain ⟨F, d, e, P, sF, r1, r2, ⟨xs, k, rfl, rfl, hk0, hk1, hl, q⟩, kk⟩ := h
  obtain ⟨a, vs, rfl, h1, rr1⟩ := r1
  cases (show y = V.int k from r2)
  cases (show u = Value.ref a from rx)
  obtain ⟨t, rfl⟩ := ry
  obtain ⟨its, rv, pl, hz⟩ := I.list (Same.seq sF h1)
  obtain ⟨o1, n1, g1, c1, d1, s1⟩ := pl
  obtain ⟨oc1, od1, dt1, sl1⟩ := o1
  subst c1 d1 s1
  have le : its.toArray.size = xs.length := by rw [List.size_toArray, ← rv.length, rr1.length]
  have hsz : its.toArray.size * k.toNat ≤ 1000 := by rw [le]; exact hl
  have hsz2 : its.length * k.toNat ≤ 1000 := by simpa using hsz
  refine wpAny_binaryOp_repeat_ref (T := "list") (U := "int") (by decide) ⟨_, g1, rfl⟩ (fun s' => typeIs_int s' k t) noFill_list_mul PySem.F.fills_int_mul PySem.F.slot_int_rmul repeat_list PySem.F.slot_int_index.lookup
    (call_meets PySem.F.slot_int_rmul (typeIs_int s k t) PySem.F.entry_int_rmul (PySem.F.args_int_rmul_2 _ _) (lm_int_rmul_list_any k t a its.toArray n1 none sl1)
      ⟨g1, rfl, ⟨_, g1, rfl⟩, call_meets PySem.F.slot_list_mul ⟨_, g1, rfl⟩ PySem.F.entry_list_mul (PySem.F.args_list_mul_2 _ _)
        (lm_list_mul_any a its.toArray n1 none sl1 k t (by simp [Builtin.List.listFitsIndex]; omega) (by omega) (by simp [Builtin.List.listTooLong, sizeLine]; omega)) ⟨g1, ?_⟩⟩)
  rw [listMul_foldl_if]
  have ex := Ext.new1 (o := .lst (List.replicate k.toNat vs).flatten) sF I.fresh
  have rr := reps_rep rr1 k.toNat
  refine ⟨.ref _, _, I.lnew (t' := s.toks) (rv.rep k.toNat) (by rw [lm_len_rep_flat, rr1.length, Nat.mul_comm]; exact line1000 hl), rfl, kk _ q _ _ _ ex ⟨_, _, rfl, .inl (.inl upd_same), rr.mono ex.ff⟩⟩
end
end L3

set_option Elab.async false
set_option linter.all false
set_option maxRecDepth 100000
set_option maxHeartbeats 1000000
/-! i += e; a op b op c -/
namespace L3
open PySem L2
section
variable {X : Cx} {K : PySem.W.Frag} {W : WX} {a b c e : Expr} {pos : Pos}
/-- x op= e, whole numbers -/
def wAug (i : Nat) (f : Int → Int → Int) (u : Wt) : Ws := fun δ E => ∃ n, δ[i]? = some (.v (.int n)) ∧ u δ (fun d δ1 => ∃ m, d = .int m ∧ E.nx (δ1.set i (.v (.int (f n m))))) E.xx
theorem s_aug (i : Nat) {x : Str} {u : Wt} {f : Int → Int → Int} {op : Operator} {pos' : Pos} (hN : X.N.Nodup) (ho : PIp X op (ipI f)) (h : PE X e (Tr K W u)) (hi : X.N[i]? = some x := by rfl) (hx : Loc X.env.scope x := by first | exact Or.inl rfl | exact Or.inr rfl)
    (hf : X.fn x = true ∨ X.env.scope.names.lookup x = some .local := by first | exact .inl rfl | exact .inr rfl | assumption) : PS X (.AugAssign (.Name x pos') op e pos) (TrS K W (wAug i f u)) := ps_imp (ps_aug hN hi hx h ho hf) fun Dn σ H h => by
  obtain ⟨b, δ, F, E, wf, r, ⟨n, hn, q⟩, k1, k2, k3, k4, k5⟩ := h
  obtain ⟨v, hv, rv⟩ := r.val hn
  cases (show v = V.int n from rv)
  refine ⟨_, hv, b, δ, F, _, _, wf, r, q, fun d δ1 q1 y F1 H1 wf1 s1 r1 rx => ?_, k5_of k5⟩
  obtain ⟨m, rfl, q2⟩ := q1
  cases (show y = V.int m from rx)
  exact ⟨n, m, rfl, rfl, k1 _ q2 _ F1 H1 wf1 s1 (r1.setV (show Rep K F1 (D.int (f n m)) (V.int (f n m)) from rfl))⟩
/-- a op b op' c -/
def wChain (o o' : O2) (wa wb wc : Wt) : Wt := fun δ Q Y => wa δ (fun d δ1 => wb δ1 (fun e δ2 => o d e fun z => ∃ k, z = .bl k ∧ if k = true then wc δ2 (fun c δ3 => o' e c fun z => Q z δ3) Y else Q (.bl false) δ2) Y) Y
theorem x_chain {o o' : O2} {wa wb wc : Wt} {op op' : CmpOp} (ho : OpR X (compareOp op) (Op2 K o)) (ho' : OpR X (compareOp op') (Op2 K o')) (ha : PE X a (Tr K W wa)) (hb : PE X b (Tr K W wb)) (hc : PE X c (Tr K W wc))
    (hm : lastMarks [op, op'] [b, c] = false := by with_unfolding_all rfl) : PE X (.Compare a [op, op'] [b, c] pos) (Tr K W (wChain o o' wa wb wc)) := pe_imp (pe_chain ho ho' ha hb hc hm) fun σ H Q h => by
  obtain ⟨b, δ, F, Po, Px, wf, r, q, k, kx⟩ := h
  refine ⟨b, δ, F, _, _, wf, r, q, fun d δ1 q1 x F1 H1 wf1 s1 r1 rx => ?_, kx⟩
  refine ⟨b, δ1, F1, _, _, wf1, r1, q1, fun e δ2 q2 y F2 H2 wf2 s2 r2 ry => ?_, fun er δ' hx => Xp.back s1 (kx er δ' hx)⟩
  refine ⟨F2, d, e, _, wf2.fh, rx.mono s2, ry, q2, fun z q3 v F3 H3 ex rz => ?_⟩
  obtain ⟨k', rfl, q4⟩ := q3
  cases (show v = V.bl k' from rz)
  refine ⟨k', rfl, ?_⟩
  cases k' with
  | true =>
    rw [if_pos rfl] at q4 ⊢
    exact ⟨b, δ2, F3, _, _, wf2.ext ex, r2.ext ex, q4, fun c δ3 q5 w F4 H4 wf4 s4 r4 rw' => ⟨F4, e, c, _, wf4.fh, ry.mono (ex.ff.trans s4), rw', q5, fun z q6 v F5 H5 ex5 rz => k z δ3 q6 v F5 H5 (wf4.ext ex5) ((s1.trans s2).trans (ex.ff.trans (s4.trans ex5.ff))) (r4.ext ex5) rz⟩, fun er δ' hx => Xp.back ((s1.trans s2).trans ex.ff) (kx er δ' hx)⟩
  | false =>
    rw [if_neg Bool.false_ne_true] at q4 ⊢
    exact k (.bl false) δ2 q4 _ F3 H3 (wf2.ext ex) ((s1.trans s2).trans ex.ff) (r2.ext ex) rz
theorem r_aug {i : Nat} {f : Int → Int → Int} {u : Wt} {δ : List S} {E : DE} {n : Int} (h1 : δ[i]? = some (.v (.int n))) (h : u δ (fun d δ1 => ∃ m, d = .int m ∧ E.nx (δ1.set i (.v (.int (f n m))))) E.xx) : wAug i f u δ E := ⟨n, h1, h⟩
theorem r_chain {o o' : O2} {wa wb wc : Wt} {δ : List S} {Q : D → List S → Prop} {Y : Er → List S → Prop} (h : wa δ (fun d δ1 => wb δ1 (fun e δ2 => o d e fun z => ∃ k, z = .bl k ∧ if k = true then wc δ2 (fun c δ3 => o' e c fun z => Q z δ3) Y else Q (.bl false) δ2) Y) Y) : wChain o o' wa wb wc δ Q Y := h
variable {x : Str} {p : Pos} {tg : Expr}
/-- y = [.. for .. in x], x an own list -/
theorem s_setLcO (j : Nat) {elt : Expr} {ifs : List Expr} {scope : Scope} {own : List (Str × Nat)} {g : Wg} {t : Wb} {u : Wt} {ts : List Nat} (i : Nat) {y : Str} {py spos : Pos} (hc : X.calm = true) (hN : X.N.Nodup) (hNi : X.N[i]? = some x)
    (hv : Vis X.env.scope x) (hd : (x == ("__debug__" : Str)) = false) (hcd : (x == ("__classdict__" : Str)) = false) (ok : BlkOk X.N X.env.scope scope own) (hts : ∀ j ∈ ts, j ∈ own.map (·.2))
    (hg : ∀ (s : Shared) (H : Hp) (C : Addr) (cl : List (Str × Addr)) (fp : List Addr), PG (X.blk s H scope (PySem.compEnvC scope cl C X.env) fp) tg (TrG X.K ts g)) (ht : ∀ (s : Shared) (H : Hp) (C : Addr) (cl : List (Str × Addr)) (fp : List Addr), PTs (X.blk s H scope (PySem.compEnvC scope cl C X.env) fp) ifs (TrT X.K W0 t))
    (he : ∀ (s : Shared) (H : Hp) (C : Addr) (cl : List (Str × Addr)) (fp : List Addr), PE (X.blk s H scope (PySem.compEnvC scope cl C X.env) fp) elt (Tr X.K W0 u))
    (hy : X.N[j]? = some y := by rfl) (hyl : X.env.scope.names.lookup y = some .local := by rfl) (hsw : swapsWith (.ListComp elt [⟨tg, .Name x p, ifs, 0⟩] scope pos) (some (.Name y py)) spos.line X.env = pure true) (hs : ∀ z, foldedSetIterable (.Name x p) X.env z = pure z := by intro _; rfl) :
    PS X (.Assign [.Name y py] (.ListComp elt [⟨tg, .Name x p, ifs, 0⟩] scope pos) spos) (TrS X.K W (wSetL j (wLcO i g t u (own.map (·.2))))) := ps_imp (ps_setLc hc hN hy hyl hsw (pi_list (pe_var hNi hv hd hcd)) ok hg ht he hs) fun Dn σ H h => by
  obtain ⟨b, δ, F, E, wf, r, q, k1, k2, k3, k4, k5⟩ := h
  exact tr_lcO hts ⟨b, δ, F, _, _, wf, r, q, fun d δ1 q1 p F1 H1 wf1 s1 r1 n => k1 _ q1 _ F1 H1 wf1 s1 (r1.setL n), k5_of k5⟩
theorem s_setLcFO (j : Nat) {elt : Expr} {ifs : List Expr} {scope : Scope} {own : List (Str × Nat)} {g : Wg} {t : Wb} {u : Wt} {ts : List Nat} (i : Nat) {y : Str} {py spos : Pos} (hc : X.calm = true) (hN : X.N.Nodup) (hNi : X.N[i]? = some x)
    (hv : Vis X.env.scope x) (hd : (x == ("__debug__" : Str)) = false) (hcd : (x == ("__classdict__" : Str)) = false) (ok : BlkOk X.N X.env.scope scope own) (hts : ∀ j ∈ ts, j ∈ own.map (·.2))
    (hg : ∀ (s : Shared) (H : Hp) (C : Addr) (cl : List (Str × Addr)) (fp : List Addr), PG (X.blk s H scope (PySem.compEnvC scope cl C X.env) fp) tg (TrG X.K ts g)) (ht : ∀ (s : Shared) (H : Hp) (C : Addr) (cl : List (Str × Addr)) (fp : List Addr), PTs (X.blk s H scope (PySem.compEnvC scope cl C X.env) fp) ifs (TrT X.K W0 t))
    (he : ∀ (s : Shared) (H : Hp) (C : Addr) (cl : List (Str × Addr)) (fp : List Addr), PE (X.blk s H scope (PySem.compEnvC scope cl C X.env) fp) elt (Tr X.K W0 u))
    (hy : X.N[j]? = some y := by rfl) (hyl : X.env.scope.names.lookup y = some .local := by rfl) (hsw : swapsWith (.ListComp elt [⟨tg, .Name x p, ifs, 0⟩] scope pos) (some (.Name y py)) spos.line X.env = pure true) (hs : ∀ z, foldedSetIterable (.Name x p) X.env z = pure z := by intro _; rfl) :
    PS X (.Assign [.Name y py] (.ListComp elt [⟨tg, .Name x p, ifs, 0⟩] scope pos) spos) (TrS X.K W (wSetF j (wLcO i g t u (own.map (·.2))))) := ps_imp (ps_setLc hc hN hy hyl hsw (pi_list (pe_var hNi hv hd hcd)) ok hg ht he hs) fun Dn σ H h => by
  obtain ⟨b, δ, F, E, wf, r, q, k1, k2, k3, k4, k5⟩ := h
  refine tr_lcO hts ⟨b, δ, F, _, _, wf, r, q, fun d δ1 q1 p F1 H1 wf1 s1 r1 n => ?_, k5_of k5⟩
  obtain ⟨F2, a1, a2, a3, a4⟩ := freeze wf1 r1 n
  exact k1 _ q1 _ F2 H1 a1 (s1.trans a2) (a3.setV a4)
end
end L3

set_option Elab.async false
set_option linter.all false
set_option maxRecDepth 100000
set_option maxHeartbeats 1000000
/-! is of two bools; == of lists of different lengths -/
namespace GB
open PySem PySem.SeqAt
open AutoSeq1 (wpAny_loadPart')
open MeetsSeq MeetsSeq2 MeetsSeq3 SeqRoads2
section
variable {prog : Program} {w : World}
theorem list_eqU (l b : Addr) : MeetsIn prog w (Builtin.«list.__eq__» ⟨[.ref l, .ref b], []⟩)
      (fun A R s => ∃ (items items2 : Array Value) (n n2 : Nat) (dd dd2 : Option Addr) (sl sl2 : Array (Option Value)),
    s.heap.get? l = some { cls := .type "list", dict := dd, data := .seq items n, slots := sl } ∧ s.heap.get? b = some { cls := .type "list", dict := dd2, data := .seq items2 n2, slots := sl2 } ∧ items.size ≠ items2.size ∧ R (.ok (.ret (.bool false))) s) := by
  intro A R s h
  obtain ⟨items, items2, n, n2, dd, dd2, sl, sl2, hl, hb, hz, fin⟩ := h
  obtain ⟨hp, g, d, tk, os⟩ := s
  have f3 := AutoSeq1.sub_list_list
  have hne : (items.size != items2.size) = true := by simpa using hz
  wp_walk using wpAny_loadPart' hl, wpAny_loadPart' hb
  exact fin
theorem rc_listU {A : Around} {E : Value → Shared → Prop} {s : Shared} {l b : Addr} {items items2 : Array Value} {n n2 : Nat} {dd dd2 : Option Addr} {sl sl2 : Array (Option Value)} {Q : Value → Shared → Prop} (hu : A.units < cLine)
    (hl : s.heap.get? l = some { cls := .type "list", dict := dd, data := .seq items n, slots := sl }) (hb : s.heap.get? b = some { cls := .type "list", dict := dd2, data := .seq items2 n2, slots := sl2 }) (hz : items.size ≠ items2.size)
    (fin : Q (.bool false) s) : wpAny (model prog w) A (richCompare .Eq (.ref l) (.ref b)) Q E s := by
  have ta : s.TypeIs (.ref l) "list" := ⟨_, hl, rfl⟩
  have tb : s.TypeIs (.ref b) "list" := ⟨_, hb, rfl⟩
  exact wpAny_richCompare_same_room (op := .Eq) ta tb F.slot_list_eq (call_meetsIn F.slot_list_eq ta F.entry_list_eq (F.args_list_eq_2 _ _) (list_eqU l b) ⟨items, items2, n, n2, dd, dd2, sl, sl2, hl, hb, hz, ⟨(fun x => nomatch x), fin⟩⟩) hu
end
end GB
namespace L3
open PySem L2
section
variable {X : Cx} {k n : Nat} {C f : Addr} {fd : FuncData} {ps : List Str} {ff : Fn}
/-- == of two lists: of one length, or not -/
def oEqLs (C : Addr) (ff : Fn) : O2 := fun d e P => oEqL false C ff d e P ∨ ∃ xs ys, d = .lst xs ∧ e = .lst ys ∧ xs.length ≠ ys.length ∧ P (.bl false)
theorem o_eqLs (O : CmpIn X.K C f "__eq__") (hn : okCmp X.K C (.obj C [] [])) (Fk : FnG X.prog X.w X.K X.mg X.base (L2.CX X.prog X.w) k f fd ps (spF X.K 2 ff)) (hr : RmG (k + 9) X.A) (hb : Binds X.K fd ps []) (hl : ∀ as R Y, ff as R Y → as.length = 2) : OpR X (compareOp .Eq) (Op2 X.K (oEqLs C ff)) := by
  intro pins s σ H x y u v Q I rx ry h
  obtain ⟨F, d, e, P, sF, r1, r2, hq, kk⟩ := h
  rcases hq with hq | ⟨xs, ys, rfl, rfl, hz, hP⟩
  · exact o_eqL O hn Fk hr hb hl pins s σ H x y u v Q I rx ry ⟨F, d, e, P, sF, r1, r2, hq, kk⟩
  · obtain ⟨a, vs, rfl, q1, q2⟩ := r1
    obtain ⟨c, ws, rfl, q3, q4⟩ := r2
    cases (show u = Value.ref a from rx)
    cases (show v = Value.ref c from ry)
    obtain ⟨its, r1, p1, _⟩ := I.list (Same.seq sF q1)
    obtain ⟨its2, r2, p2, _⟩ := I.list (Same.seq sF q3)
    have l1 := r1.length
    have l2 := r2.length
    have c3 := q2.length
    have c4 := q4.length
    obtain ⟨⟨cls, dd, data, sl⟩, ho, hc, m1, hd⟩ := p1.isList
    obtain ⟨⟨cls2, dd2, data2, sl2⟩, ho2, hc2, m2, hd2⟩ := p2.isList
    simp only at hc hd hc2 hd2
    subst hc hd hc2 hd2
    show wpAny (model X.prog X.w) X.A (richCompare .Eq (.ref a) (.ref c)) (EP X pins σ Q) X.xe s
    refine GB.rc_listU hr.r.units0 ho ho2 (by rw [List.size_toArray, List.size_toArray]; omega) ?_
    exact ⟨.bl false, H, I, rfl, kk (.bl false) hP _ F H (Ext.refl sF) rfl⟩
/-- is, is not: of two bools, or of anything and None -/
def oIsM (neg : Bool) : O2 := fun d e P => oIs neg d e P ∨ ∃ a b : Bool, d = .bl a ∧ e = .bl b ∧ P (.bl (if neg then !decide (a = b) else decide (a = b)))
theorem o_isnotM : OpR X (compareOp .IsNot) (Op2 X.K (oIsM true)) := by
  intro pins s σ H x y u v Q I rx ry h
  obtain ⟨F, d, e, P, sF, r1, r2, hq, kk⟩ := h
  rcases hq with hq | ⟨a, b, rfl, rfl, hP⟩
  · exact o_isnot pins s σ H x y u v Q I rx ry ⟨F, d, e, P, sF, r1, r2, hq, kk⟩
  · exact op_notBl pins s σ H x y u v Q I rx ry ⟨a, b, r1, r2, kk _ hP _ F H (Ext.refl sF) rfl⟩
theorem o_isM : OpR X (compareOp .Is) (Op2 X.K (oIsM false)) := by
  intro pins s σ H x y u v Q I rx ry h
  obtain ⟨F, d, e, P, sF, r1, r2, hq, kk⟩ := h
  rcases hq with hq | ⟨a, b, rfl, rfl, hP⟩
  · exact o_is pins s σ H x y u v Q I rx ry ⟨F, d, e, P, sF, r1, r2, hq, kk⟩
  · exact op_isBl pins s σ H x y u v Q I rx ry ⟨a, b, r1, r2, kk _ hP _ F H (Ext.refl sF) rfl⟩
/-! an own list, or None -/
variable {K : PySem.W.Frag} {W : WX} {e : Expr} {es : List Expr} {pos p : Pos} {x y : Str} {dvs : List V} {dvl : List Value} {dd : List D} {m : Nat}
/-- x is None, x an own list or a value -/
def wIsO (neg : Bool) (i : Nat) : Wt := fun δ Q _ => (∃ k xs, δ[i]? = some (.ol k xs) ∧ Q (.bl neg) δ) ∨ (∃ d, δ[i]? = some (.v d) ∧ ((d = .non ∧ Q (.bl (!neg)) δ) ∨ ((∃ t, tyD d = some t ∧ d ≠ .non) ∧ Q (.bl neg) δ)))
theorem x_isO (i : Nat) {j : Nat} {cp : Pos} (hN : X.N[i]? = some x := by rfl) (hv : Vis X.env.scope x := by first | exact Or.inl rfl | exact Or.inr (Or.inl rfl) | exact Or.inr (Or.inr rfl)) (hd : (x == ("__debug__" : Str)) = false := by decide)
    (hcd : (x == ("__classdict__" : Str)) = false := by decide) : PE X (.Compare (.Name x p) [.Is] [.Constant .none j cp] pos) (Tr X.K W (wIsO false i)) :=
  pe_imp (pe_cmpR op_isN (pe_var hN hv hd hcd) pe_non (nomark _)) fun σ H Q h => by
    obtain ⟨bb, δ, F, Po, Px, wf, r, q, k, kx⟩ := h
    rcases q with ⟨k0, xs, hi, q⟩ | ⟨d, hi, q⟩
    · obtain ⟨p0, hp, _⟩ := r.own hi rfl
      exact ⟨_, hp, rfl, k _ _ q _ F H wf (Same.refl _) r rfl⟩
    · obtain ⟨v, hv, rv⟩ := r.val hi
      refine ⟨_, hv, rfl, ?_⟩
      rcases q with ⟨rfl, q⟩ | ⟨⟨t, ht, hn⟩, q⟩
      · cases (show v = V.non from rv)
        exact k _ _ q _ F H wf (Same.refl _) r rfl
      · rw [decide_eq_false (rep_nn rv ht hn)]
        exact k _ _ q _ F H wf (Same.refl _) r rfl
theorem x_notO (i : Nat) {j : Nat} {cp : Pos} (hN : X.N[i]? = some x := by rfl) (hv : Vis X.env.scope x := by first | exact Or.inl rfl | exact Or.inr (Or.inl rfl) | exact Or.inr (Or.inr rfl)) (hd : (x == ("__debug__" : Str)) = false := by decide)
    (hcd : (x == ("__classdict__" : Str)) = false := by decide) : PE X (.Compare (.Name x p) [.IsNot] [.Constant .none j cp] pos) (Tr X.K W (wIsO true i)) :=
  pe_imp (pe_cmpR op_notN (pe_var hN hv hd hcd) pe_non (nomark _)) fun σ H Q h => by
    obtain ⟨bb, δ, F, Po, Px, wf, r, q, k, kx⟩ := h
    rcases q with ⟨k0, xs, hi, q⟩ | ⟨d, hi, q⟩
    · obtain ⟨p0, hp, _⟩ := r.own hi rfl
      exact ⟨_, hp, rfl, k _ _ q _ F H wf (Same.refl _) r rfl⟩
    · obtain ⟨v, hv, rv⟩ := r.val hi
      refine ⟨_, hv, rfl, ?_⟩
      rcases q with ⟨rfl, q⟩ | ⟨⟨t, ht, hn⟩, q⟩
      · cases (show v = V.non from rv)
        exact k _ _ q _ F H wf (Same.refl _) r rfl
      · rw [decide_eq_false (rep_nn rv ht hn)]
        exact k _ _ q _ F H wf (Same.refl _) r rfl
theorem x_tisO (i : Nat) {j : Nat} {cp : Pos} (hN : X.N[i]? = some x := by rfl) (hv : Vis X.env.scope x := by first | exact Or.inl rfl | exact Or.inr (Or.inl rfl) | exact Or.inr (Or.inr rfl)) (hd : (x == ("__debug__" : Str)) = false := by decide)
    (hcd : (x == ("__classdict__" : Str)) = false := by decide) : PT X (.Compare (.Name x p) [.Is] [.Constant .none j cp] pos) (TrT X.K W (wTst (wIsO false i))) :=
  pt_imp (pt_cmpR op_isN (pe_var hN hv hd hcd) pe_non (nomark _)) fun σ H Q h => by
    obtain ⟨bb, δ, F, Po, Px, wf, r, q, k, kx⟩ := h
    rcases q with ⟨k0, xs, hi, c, hc, q⟩ | ⟨d, hi, q⟩
    · obtain ⟨p0, hp, _⟩ := r.own hi rfl
      cases hc
      exact ⟨_, hp, rfl, _, rfl, k _ _ q F H wf (Same.refl _) r⟩
    · obtain ⟨v, hv, rv⟩ := r.val hi
      refine ⟨_, hv, rfl, ?_⟩
      rcases q with ⟨rfl, c, hc, q⟩ | ⟨⟨t, ht, hn⟩, c, hc, q⟩
      · cases hc
        cases (show v = V.non from rv)
        exact ⟨_, rfl, k _ _ q F H wf (Same.refl _) r⟩
      · cases hc
        rw [decide_eq_false (rep_nn rv ht hn)]
        exact ⟨_, rfl, k _ _ q F H wf (Same.refl _) r⟩
theorem x_tnotO (i : Nat) {j : Nat} {cp : Pos} (hN : X.N[i]? = some x := by rfl) (hv : Vis X.env.scope x := by first | exact Or.inl rfl | exact Or.inr (Or.inl rfl) | exact Or.inr (Or.inr rfl)) (hd : (x == ("__debug__" : Str)) = false := by decide)
    (hcd : (x == ("__classdict__" : Str)) = false := by decide) : PT X (.Compare (.Name x p) [.IsNot] [.Constant .none j cp] pos) (TrT X.K W (wTst (wIsO true i))) :=
  pt_imp (pt_cmpR op_notN (pe_var hN hv hd hcd) pe_non (nomark _)) fun σ H Q h => by
    obtain ⟨bb, δ, F, Po, Px, wf, r, q, k, kx⟩ := h
    rcases q with ⟨k0, xs, hi, c, hc, q⟩ | ⟨d, hi, q⟩
    · obtain ⟨p0, hp, _⟩ := r.own hi rfl
      cases hc
      exact ⟨_, hp, rfl, _, rfl, k _ _ q F H wf (Same.refl _) r⟩
    · obtain ⟨v, hv, rv⟩ := r.val hi
      refine ⟨_, hv, rfl, ?_⟩
      rcases q with ⟨rfl, c, hc, q⟩ | ⟨⟨t, ht, hn⟩, c, hc, q⟩
      · cases hc
        cases (show v = V.non from rv)
        exact ⟨_, rfl, k _ _ q F H wf (Same.refl _) r⟩
      · cases hc
        rw [decide_eq_false (rep_nn rv ht hn)]
        exact ⟨_, rfl, k _ _ q F H wf (Same.refl _) r⟩
theorem r_isOl {neg : Bool} {i : Nat} {δ : List S} {k : Bool} {xs : List D} {Q : D → List S → Prop} {Y : Er → List S → Prop} (h : δ[i]? = some (.ol k xs)) (q : Q (.bl neg) δ) : wIsO neg i δ Q Y := .inl ⟨k, xs, h, q⟩
theorem r_isOn {neg : Bool} {i : Nat} {δ : List S} {Q : D → List S → Prop} {Y : Er → List S → Prop} (h : δ[i]? = some (.v .non)) (q : Q (.bl (!neg)) δ) : wIsO neg i δ Q Y := .inr ⟨_, h, .inl ⟨rfl, q⟩⟩
/-- y = f(..), which hands back a list or a value -/
def wSetR (i : Nat) (f : Fn) (dd : List D) (u : Wa) : Ws := fun δ E => u δ (fun as δ1 => ∃ ds, trees as = some ds ∧ f ((ds ++ dd).map S.v) (fun r _ => (∃ xs, r = .l xs ∧ E.nx (δ1.set i (.ol false xs))) ∨ (∃ d, r = .d d ∧ E.nx (δ1.set i (.v d)))) (fun er _ => E.xx er δ1)) E.xx
theorem s_setR (i : Nat) {u : Wa} {py : Pos} (hN : X.N.Nodup) (F : FnG X.prog X.w X.K X.mg X.base (L2.CX X.prog X.w) k f fd ps (spF X.K m ff)) (hr : RmG k X.A) (hm : X.mg x = some (.ref f)) (hk : PySem.W.keepIn X.K (.ref f) = true) (hb : Binds X.K fd ps dvl) (hd : Vals dvs dvl) (hdd : ∀ F, Reps X.K F dd dvs)
    (tk : Takes X W) (hf : ∀ as R Y, ff as R Y → as.length = m) (ha : PA X (e :: es) (TrA X.K W u)) (hi : X.N[i]? = some y := by rfl) (hx : Loc X.env.scope y := by first | exact Or.inl rfl | exact Or.inr rfl) (hg : Gl X x := by rfl) (hdb : (x == ("__debug__" : Str)) = false := by decide) (he : starEach (e :: es) X.env = (false, eval e X.env) :: starEach es X.env := by rfl)
    {cpos : Pos} (hpl : (backTo cpos (starEach es X.env)).any (·.1) = false := by rfl) (hs : swapsWith (.Call (.Name x p) (e :: es) [] cpos) (some (.Name y py)) pos.line X.env = pure false := by rfl)
    (hfn : X.fn y = true ∨ X.env.scope.names.lookup y = some .local := by first | exact .inl rfl | exact .inr rfl | assumption) : PS X (.Assign [.Name y py] (.Call (.Name x p) (e :: es) [] cpos) pos) (TrS X.K W (wSetR i ff dd u)) :=
  ps_imp (ps_set hN hi hx (pe_callG F hr hg hm hk hb hd (fun σ => passAt tk σ) ha hdb he hpl) hs hfn) fun Dn σ H h => by
  obtain ⟨b, δ, F, E, wf, r, q, k1, k2, k3, k4, k5⟩ := h
  refine ⟨b, δ, F, _, _, wf, r, q, fun as δ1 q1 vs F1 H1 wf1 s1 r1 ra => ?_, k5_of k5⟩
  obtain ⟨ds, hds, q2⟩ := q1
  have rr := (reps_of ra hds).append (hdd F1)
  have hn : (vs ++ dvs).length = m := by
    have := hf _ _ _ q2
    rw [List.length_map] at this
    rw [rr.length, this]
  refine sp_call wf1 r1 rr hn q2 (fun rv fin q3 v F' H' w ok => ?_) fun er fin q3 F' H' w s r' cls dd x => (k5_of k5) er δ1 q3 cls dd F' H' w (s1.trans s) r' x
  rcases q3 with ⟨xs, rfl, q4⟩ | ⟨d, rfl, q4⟩
  · have ex := ext_of_call w (Same.refl _) fun i x z => by cases z
    obtain ⟨p, rfl, ho, h0⟩ := ok
    exact k1 _ q4 _ F' H' (wf1.ext ex) (s1.trans ex.ff) ((r1.ext ex).setL ⟨ho, wf1.live p h0, r1.notNew h0⟩)
  · obtain ⟨F2, a1, a2, a3, a4, _⟩ := rv_tree wf1 r1 w (Same.refl _) (fun i x z => by cases z) ok
    exact k1 _ q4 _ F2 H' a1 (s1.trans a2) (a3.setV a4)
end
end L3

set_option Elab.async false
set_option linter.all false
set_option maxRecDepth 100000
set_option maxHeartbeats 1000000
/-! [elt for tg in iter for tg1 in iter1], without tests -/
namespace L3
open PySem L2
section
variable {X : Cx} {K : PySem.W.Frag} {W : WX} {c : Expr} {pos : Pos} {tg tg1 : Expr}
/-- the inner turns -/
def lcI (g : Wg) (u : Wt) (vs : List Nat) (Q : List D → List S → Prop) : List D → List D → List S → Prop
  | [], acc, δ => Q acc δ
  | y :: ys, acc, δ => g y δ fun δ1 => u δ1 (fun d δ3 => acc.length < 1000 ∧ δ3.map S.owned = δ.map S.owned ∧ lcI g u vs Q ys (acc ++ [d]) (wipeS δ3 vs)) (fun _ _ => False)
/-- the outer turns -/
def lcO (g : Wg) (wi1 : Wi) (g1 : Wg) (u : Wt) (vs vs1 : List Nat) (δ0 : List S) (Q : List D → List S → Prop) : List D → List D → List S → Prop
  | [], acc, δ => Q acc (backS δ0 vs δ)
  | y :: ys, acc, δ => g y δ fun δ1 => wi1 δ1 (fun items δ2 => δ2.map S.owned = δ.map S.owned ∧ lcI g1 u vs1 (fun acc2 δ3 => lcO g wi1 g1 u vs vs1 δ0 Q ys acc2 (wipeS δ3 vs)) items acc (wipeS δ2 vs1)) (fun _ _ => False)
def wLc2 (wi : Wi) (g : Wg) (wi1 : Wi) (g1 : Wg) (u : Wt) (vs vs1 : List Nat) : Wl := fun δ Q Y => wi δ (fun items δ1 => (∀ v ∈ vs, ∀ s : S, δ1[v]? = some s → s.owned = false) ∧ lcO g wi1 g1 u vs vs1 δ1 Q items [] (wipeS δ1 vs)) Y
theorem wipe_wipe {σ : L2.St} {vs vs1 : List Nat} (h : ∀ v ∈ vs1, v ∈ vs) : L2.wipe (L2.wipe σ vs1) vs = L2.wipe σ vs := by
  apply List.ext_getElem?
  intro j
  rw [wipe_get, wipe_get, wipe_get]
  by_cases hj : j ∈ vs
  · rw [if_pos hj, if_pos hj]
    by_cases h1 : j ∈ vs1
    · rw [if_pos h1, Option.map_map]; rfl
    · rw [if_neg h1]
  · rw [if_neg hj, if_neg hj, if_neg fun z => hj (h j z)]
theorem tr_lc2 {wi wi1 : Wi} {g g1 : Wg} {u : Wt} {vs vs1 ts ts1 : List Nat} {σ : L2.St} {H : Hp} {Q : VK} (hts : ∀ j ∈ ts, j ∈ vs) (hts1 : ∀ j ∈ ts1, j ∈ vs1) (hvv : ∀ j ∈ vs1, j ∈ vs) (h : TrL K W (wLc2 wi g wi1 g1 u vs vs1) σ H Q) :
    tLc2 (TrI K W wi) (TrG K ts g) (TrT K W0 fun δ Q _ => Q true δ) (TrI K W0 wi1) (TrG K ts1 g1) (TrT K W0 fun δ Q _ => Q true δ) (Tr K W0 u) vs vs1 σ H Q := by
  obtain ⟨bb, δ, F, Po, Px, wf, r, q, k, kx⟩ := h
  refine ⟨bb, δ, F, _, _, wf, r, q, fun items δ1 q1 J F1 H1 wf1 s1 r1 it => ?_, kx⟩
  obtain ⟨hu, q1⟩ := q1
  intro Dn nD
  have h0 : bb.H0 Dn = none := wf1.live Dn nD
  have hP : ∀ i, bb.P i ≠ some Dn := fun i z => by
    obtain ⟨o, ho⟩ := wf1.pn i Dn z
    rw [h0] at ho; cases ho
  have nF1 : F1 Dn = none := wf1.fh.free nD
  have hF0 : bb.F0 Dn = none := wf1.ff.free nF1
  have nj := r1.notNew nD
  have njw : ∀ (δ' : List S), δ'.map S.owned = (wipeS δ1 vs).map S.owned → ∀ (j : Nat) (s : S), δ'[j]? = some s → s.owned = true → (L2.wipe σ vs)[j]? ≠ some (some (.ref Dn)) := fun δ' hp j s hj o z => by
    obtain ⟨s', hs', o'⟩ := own_pat hp hj o
    rw [wipeS_get] at hs'
    by_cases hv : j ∈ vs
    · rw [if_pos hv] at hs'
      cases q : δ1[j]? with
      | none => rw [q] at hs'; cases hs'
      | some s2 => rw [q] at hs'; cases hs'; cases o'
    · rw [if_neg hv] at hs'
      rw [wipe_get, if_neg hv] at z
      exact nj j s' hs' o' z
  have hun : ∀ (δ' : List S), δ'.map S.owned = (wipeS δ1 vs).map S.owned → ∀ v ∈ vs, ∀ s : S, δ'[v]? = some s → s.owned = false := fun δ' hp v hv s hs => by
    cases ho : s.owned with
    | false => rfl
    | true =>
      obtain ⟨s', hs', o'⟩ := own_pat hp hs ho
      rw [wipeS_get, if_pos hv] at hs'
      cases q : δ1[v]? with
      | none => rw [q] at hs'; cases hs'
      | some s2 => rw [q] at hs'; cases hs'; cases o'
  have ex0 := Ext.beside (o := .lst []) wf1.fh nD
  refine ⟨fun i m H' => ∃ δ' F' acc accv, Wf bb F' H' ∧ Same F1 F' ∧ Rs K bb δ' (L2.wipe σ vs) F' H' ∧ H' Dn = some (.lst accv) ∧ F' Dn = none ∧ Reps K F' acc accv ∧ i ≤ items.length ∧ m = items.length - i ∧ δ'.map S.owned = (wipeS δ1 vs).map S.owned ∧ lcO g wi1 g1 u vs vs1 δ1 Po (items.drop i) acc δ',
    ⟨_, wipeS δ1 vs, F1, [], [], wf1.ext ex0, Same.refl _, (r1.ext ex0).wipe vs, upd_same, nF1, rfl, Nat.zero_le _, rfl, rfl, q1⟩, ?_⟩
  rintro i m H' ⟨δ', F', acc, accv, wf', s', r', hD, nF', racc, hi, rfl, hpat, lp⟩
  obtain ⟨st, go⟩ := it F' H' s' wf'.fh
  by_cases hlt : i < items.length
  · refine .inr ?_
    have hd : items[i]? = some items[i] := List.getElem?_eq_getElem hlt
    obtain ⟨gg1, gg2⟩ := go i _ hd
    refine ⟨gg1, fun H2 => ∃ δ2 F2 acc2 accv2, Wf bb F2 H2 ∧ Same F1 F2 ∧ Rs K bb δ2 (L2.wipe σ vs) F2 H2 ∧ H2 Dn = some (.lst accv2) ∧ F2 Dn = none ∧ Reps K F2 acc2 accv2 ∧ δ2.map S.owned = (wipeS δ1 vs).map S.owned ∧ lcO g wi1 g1 u vs vs1 δ1 Po (items.drop (i + 1)) acc2 δ2,
      fun H2 ⟨δ2, F2, acc2, accv2, a1, a2, a3, a4, a5, a6, a7, a8⟩ => ⟨items.length - (i + 1), by omega, δ2, F2, acc2, accv2, a1, a2, a3, a4, a5, a6, hlt, rfl, a7, a8⟩, fun y H'' hy => ?_⟩
    obtain ⟨F'', ex, ry⟩ := gg2 y H'' hy
    rw [List.drop_eq_getElem_cons hlt] at lp
    have wfx := wf'.ext ex
    have rx := r'.ext ex
    have hD'' : H'' Dn = some (.lst accv) := ex.hh _ _ hD
    have nF'' : F'' Dn = none := by
      cases z : F'' Dn with
      | none => rfl
      | some v =>
        rcases ex.new Dn v z with z' | z'
        · rw [nF'] at z'; cases z'
        · rw [hD] at z'; cases z'
    have wA := wfx.add h0 nF'' hD''
    have rA := rx.add (o := .lst accv) (njw δ' hpat)
    have sx : Same F1 F'' := s'.trans ex.ff
    refine ⟨bb.add Dn (.lst accv), δ', F'', _, _, wA, rA, ry, lp, fun δ2 q2 σ2 o2 r2 => ?_⟩
    have hw : L2.wipe σ2 vs = L2.wipe σ vs := wipe_only o2 hts
    have njw1 : ∀ (δ' : List S), δ'.map S.owned = (wipeS δ1 vs).map S.owned → ∀ (j : Nat) (s : S), δ'[j]? = some s → s.owned = true → (L2.wipe σ2 vs1)[j]? ≠ some (some (.ref Dn)) := fun δ' hp j s hj o z => by
      have hv : j ∉ vs := fun hv => by
        rw [hun δ' hp j hv s hj] at o; cases o
      rw [wipe_get, if_neg fun z => hv (hvv j z), o2.2 j fun z => hv (hts j z)] at z
      exact njw δ' hp j s hj o z
    refine ⟨hw, bb.add Dn (.lst accv), δ2, F'', fun c δ => c = true ∧ wi1 δ (fun its δ2 => δ2.map S.owned = δ'.map S.owned ∧ lcI g1 u vs1 (fun acc2 δ3 => lcO g wi1 g1 u vs vs1 δ1 Po (items.drop (i + 1)) acc2 (wipeS δ3 vs)) its acc (wipeS δ2 vs1)) (fun _ _ => False), fun _ _ => False, wA, r2, ⟨rfl, q2⟩, fun c δ3 q3 F3 H3 wf3 s3 r3 => ?_, fun er δ' z => z.elim⟩
    obtain ⟨rfl, q3⟩ := q3
    refine iteT ⟨bb.add Dn (.lst accv), δ3, F3, _, _, wf3, r3, q3, fun items2 δ4 q4 J1 F4 H4 wf4 s4 r4 it1 => ?_, fun er δ' z => z.elim⟩
    obtain ⟨p4, q4⟩ := q4
    obtain ⟨w4, nF4, hD4⟩ := wf4.sub h0 hP hF0
    have pat4 : δ4.map S.owned = (wipeS δ1 vs).map S.owned := p4.trans hpat
    have pw4 : (wipeS δ4 vs1).map S.owned = (wipeS δ1 vs).map S.owned := (pat_wipe (δ := δ') (vs := vs1) (δ' := δ4) (fun v hv => hun δ' hpat v (hvv v hv)) p4).trans hpat
    have sF : Same F1 F4 := sx.trans (s3.trans s4)
    refine ⟨fun j k H' => ∃ δ' F' acc accv, Wf bb F' H' ∧ Same F4 F' ∧ Rs K bb δ' (L2.wipe σ2 vs1) F' H' ∧ H' Dn = some (.lst accv) ∧ F' Dn = none ∧ Reps K F' acc accv ∧ j ≤ items2.length ∧ k = items2.length - j ∧ δ'.map S.owned = (wipeS δ1 vs).map S.owned ∧ lcI g1 u vs1 (fun acc2 δ3 => lcO g wi1 g1 u vs vs1 δ1 Po (items.drop (i + 1)) acc2 (wipeS δ3 vs)) (items2.drop j) acc δ',
      ⟨_, wipeS δ4 vs1, F4, acc, accv, w4, Same.refl _, (r4.wipe vs1).sub h0, hD4, nF4, racc.mono (ex.ff.trans (s3.trans s4)), Nat.zero_le _, rfl, pw4, q4⟩, ?_⟩
    rintro j k' H' ⟨δ5, F5, acc5, accv5, wf5, s5, r5, hD5, nF5, racc5, hj, rfl, hpat5, lp5⟩
    obtain ⟨st1, go1⟩ := it1 F5 H' s5 wf5.fh
    by_cases hlt1 : j < items2.length
    · refine .inr ?_
      have hd1 : items2[j]? = some items2[j] := List.getElem?_eq_getElem hlt1
      obtain ⟨b1, b2⟩ := go1 j _ hd1
      refine ⟨b1, fun H2 => ∃ δ' F' acc accv, Wf bb F' H2 ∧ Same F4 F' ∧ Rs K bb δ' (L2.wipe σ2 vs1) F' H2 ∧ H2 Dn = some (.lst accv) ∧ F' Dn = none ∧ Reps K F' acc accv ∧ δ'.map S.owned = (wipeS δ1 vs).map S.owned ∧ lcI g1 u vs1 (fun acc2 δ3 => lcO g wi1 g1 u vs vs1 δ1 Po (items.drop (i + 1)) acc2 (wipeS δ3 vs)) (items2.drop (j + 1)) acc δ',
        fun H2 ⟨δ2, F2, acc2, accv2, a1, a2, a3, a4, a5, a6, a7, a8⟩ => ⟨items2.length - (j + 1), by omega, δ2, F2, acc2, accv2, a1, a2, a3, a4, a5, a6, hlt1, rfl, a7, a8⟩, fun y1 H6 hy1 => ?_⟩
      obtain ⟨F6, ex6, ry6⟩ := b2 y1 H6 hy1
      rw [List.drop_eq_getElem_cons hlt1] at lp5
      have wf6 := wf5.ext ex6
      have r6 := r5.ext ex6
      have hD6 : H6 Dn = some (.lst accv5) := ex6.hh _ _ hD5
      have nF6 : F6 Dn = none := by
        cases z : F6 Dn with
        | none => rfl
        | some v =>
          rcases ex6.new Dn v z with z' | z'
          · rw [nF5] at z'; cases z'
          · rw [hD5] at z'; cases z'
      have wA6 := wf6.add h0 nF6 hD6
      have rA6 := r6.add (o := .lst accv5) (njw1 δ5 hpat5)
      refine ⟨bb.add Dn (.lst accv5), δ5, F6, _, _, wA6, rA6, ry6, lp5, fun δ7 q7 σ3 o3 r7 => ?_⟩
      have hw3 : L2.wipe σ3 vs1 = L2.wipe σ2 vs1 := by
        have := wipe_only o3 hts1
        exact this
      refine ⟨hw3, bb.add Dn (.lst accv5), δ7, F6, fun c δ => c = true ∧ u δ (fun d δ3 => acc5.length < 1000 ∧ δ3.map S.owned = δ5.map S.owned ∧ lcI g1 u vs1 (fun acc2 δ3 => lcO g wi1 g1 u vs vs1 δ1 Po (items.drop (i + 1)) acc2 (wipeS δ3 vs)) (items2.drop (j + 1)) (acc5 ++ [d]) (wipeS δ3 vs1)) (fun _ _ => False), fun _ _ => False, wA6, r7, ⟨rfl, q7⟩, fun c δ8 q8 F8 H8 wf8 s8 r8 => ?_, fun er δ' z => z.elim⟩
      obtain ⟨rfl, q8⟩ := q8
      refine iteT ⟨bb.add Dn (.lst accv5), δ8, F8, _, _, wf8, r8, q8, fun d δ9 q9 v F9 H9 wf9 s9 r9 rv => ?_, fun er δ' z => z.elim⟩
      obtain ⟨hl, hp9, q9⟩ := q9
      obtain ⟨w10, nF9, hD9⟩ := wf9.sub h0 hP hF0
      refine ⟨accv5, hD9, by rw [racc5.length]; exact small1000 (by omega), ?_⟩
      have ra9 : Reps K F9 acc5 accv5 := racc5.mono ((ex6.ff.trans s8).trans s9)
      have r9w : Rs K (bb.add Dn (.lst accv5)) (wipeS δ9 vs1) (L2.wipe σ2 vs1) F9 H9 := by rw [← hw3]; exact r9.wipe vs1
      have pw : (wipeS δ9 vs1).map S.owned = (wipeS δ1 vs).map S.owned := (pat_wipe (δ := δ5) (vs := vs1) (δ' := δ9) (fun v hv => hun δ5 hpat5 v (hvv v hv)) hp9).trans hpat5
      have ne : ∀ {a : Addr} {o : HO}, F9 a = some o → a ≠ Dn := fun {a o} e z => by subst z; rw [nF9] at e; cases e
      refine ⟨wipeS δ9 vs1, F9, acc5 ++ [d], accv5 ++ [v], ⟨fun a o e => by rw [upd_ne (ne e)]; exact w10.fh a o e, w10.ff, fun a o hn e => ?_, w10.new, fun a e => ?_, w10.pn⟩, s5.trans (ex6.ff.trans (s8.trans s9)), ?_, upd_same, nF9, ra9.append (Reps.cons rv rfl), pw, q9⟩
      · have ne2 : a ≠ Dn := fun z => by subst z; rw [h0] at e; cases e
        rw [upd_ne ne2]; exact w10.keep a o hn e
      · by_cases z : a = Dn
        · subst z; exact h0
        · rw [upd_ne z] at e; exact w10.live a e
      · have r10 := r9w.sub h0
        refine ⟨r10.len, fun j s y' h1 h2 => slot_mono (r10.sl j s y' h1 h2) (Same.refl _) fun o p hp w => w.keep (Same.refl _) w.1 fun o' ho' => ?_, r10.sep⟩
        have ne3 : p ≠ Dn := fun z => by
          subst z
          exact njw1 _ pw j s h1 o (by rw [h2, hp])
        rw [upd_ne ne3]; exact ho'
    · have e : j = items2.length := by omega
      subst e
      rw [List.drop_length] at lp5
      refine .inl ⟨st1, wipeS δ5 vs, F5, acc5, accv5, wf5, sF.trans s5, ?_, hD5, nF5, racc5, (pat_wipe (δ := δ5) (vs := vs) (δ' := δ5) (hun δ5 hpat5) rfl).trans hpat5, lp5⟩
      have := r5.wipe vs
      rw [wipe_wipe hvv, hw] at this
      exact this
  · have e : i = items.length := by omega
    subst e
    rw [List.drop_length] at lp
    refine .inl ⟨st, k acc _ lp Dn F' H' wf' (s1.trans s') (r1.back s' hu r') ⟨⟨nF', accv, hD, racc⟩, h0, fun j s hj o z => ?_⟩⟩
    have hl : δ'.length = δ1.length := by rw [← r'.len, wipe_length, r1.len]
    rw [backS_get _ _ hl] at hj
    by_cases hv : j ∈ vs
    · rw [if_pos hv] at hj; rw [hu j hv s hj] at o; cases o
    · rw [if_neg hv] at hj
      exact njw δ' hpat j s hj o (by rw [wipe_get, if_neg hv]; exact z)
theorem s_setLc2 {elt iter iter1 : Expr} {scope : Scope} {own : List (Str × Nat)} {wi wi1 : Wi} {g g1 : Wg} {u : Wt} {ts ts1 vs1 : List Nat} (i : Nat) {y : Str} {py spos : Pos} (hc : X.calm = true) (hN : X.N.Nodup) (hi : PI X tg iter (TrI X.K W wi)) (ok : BlkOk X.N X.env.scope scope own) (hts : ∀ j ∈ ts, j ∈ own.map (·.2)) (hts1 : ∀ j ∈ ts1, j ∈ vs1) (hv : ∀ j ∈ vs1, j ∈ own.map (·.2))
    (hg : ∀ (s : Shared) (H : Hp) (C : Addr) (cl : List (Str × Addr)) (fp : List Addr), PG (X.blk s H scope (PySem.compEnvC scope cl C X.env) fp) tg (TrG X.K ts g))
    (hi1 : ∀ (s : Shared) (H : Hp) (C : Addr) (cl : List (Str × Addr)) (fp : List Addr), PI (X.blk s H scope (PySem.compEnvC scope cl C X.env) fp) tg1 iter1 (TrI X.K W0 wi1))
    (hg1 : ∀ (s : Shared) (H : Hp) (C : Addr) (cl : List (Str × Addr)) (fp : List Addr), PG (X.blk s H scope (PySem.compEnvC scope cl C X.env) fp) tg1 (TrG X.K ts1 g1))
    (he : ∀ (s : Shared) (H : Hp) (C : Addr) (cl : List (Str × Addr)) (fp : List Addr), PE (X.blk s H scope (PySem.compEnvC scope cl C X.env) fp) elt (Tr X.K W0 u))
    (hy : X.N[i]? = some y := by rfl) (hyl : X.env.scope.names.lookup y = some .local := by rfl) (hsw : swapsWith (.ListComp elt [⟨tg, iter, [], 0⟩, ⟨tg1, iter1, [], 0⟩] scope pos) (some (.Name y py)) spos.line X.env = pure true) (hs : ∀ x, foldedSetIterable iter X.env x = pure x := by intro _; rfl) (hs1 : ∀ env x, foldedSetIterable iter1 env x = pure x := by intro _ _; rfl) :
    PS X (.Assign [.Name y py] (.ListComp elt [⟨tg, iter, [], 0⟩, ⟨tg1, iter1, [], 0⟩] scope pos) spos) (TrS X.K W (wSetL i (wLc2 wi g wi1 g1 u (own.map (·.2)) vs1))) :=
  ps_imp (ps_setLc2 hc hN hy hyl hsw hi ok hv hg (fun _ _ _ _ _ => x_yes) hi1 hg1 (fun _ _ _ _ _ => x_yes) he hs hs1) fun Dn σ H h => by
  obtain ⟨b, δ, F, E, wf, r, q, k1, k2, k3, k4, k5⟩ := h
  exact tr_lc2 hts hts1 hv ⟨b, δ, F, _, _, wf, r, q, fun d δ1 q1 p F1 H1 wf1 s1 r1 n => k1 _ q1 _ F1 H1 wf1 s1 (r1.setL n), k5_of k5⟩
theorem s_setLcF2 {elt iter iter1 : Expr} {scope : Scope} {own : List (Str × Nat)} {wi wi1 : Wi} {g g1 : Wg} {u : Wt} {ts ts1 vs1 : List Nat} (i : Nat) {y : Str} {py spos : Pos} (hc : X.calm = true) (hN : X.N.Nodup) (hi : PI X tg iter (TrI X.K W wi)) (ok : BlkOk X.N X.env.scope scope own) (hts : ∀ j ∈ ts, j ∈ own.map (·.2)) (hts1 : ∀ j ∈ ts1, j ∈ vs1) (hv : ∀ j ∈ vs1, j ∈ own.map (·.2))
    (hg : ∀ (s : Shared) (H : Hp) (C : Addr) (cl : List (Str × Addr)) (fp : List Addr), PG (X.blk s H scope (PySem.compEnvC scope cl C X.env) fp) tg (TrG X.K ts g))
    (hi1 : ∀ (s : Shared) (H : Hp) (C : Addr) (cl : List (Str × Addr)) (fp : List Addr), PI (X.blk s H scope (PySem.compEnvC scope cl C X.env) fp) tg1 iter1 (TrI X.K W0 wi1))
    (hg1 : ∀ (s : Shared) (H : Hp) (C : Addr) (cl : List (Str × Addr)) (fp : List Addr), PG (X.blk s H scope (PySem.compEnvC scope cl C X.env) fp) tg1 (TrG X.K ts1 g1))
    (he : ∀ (s : Shared) (H : Hp) (C : Addr) (cl : List (Str × Addr)) (fp : List Addr), PE (X.blk s H scope (PySem.compEnvC scope cl C X.env) fp) elt (Tr X.K W0 u))
    (hy : X.N[i]? = some y := by rfl) (hyl : X.env.scope.names.lookup y = some .local := by rfl) (hsw : swapsWith (.ListComp elt [⟨tg, iter, [], 0⟩, ⟨tg1, iter1, [], 0⟩] scope pos) (some (.Name y py)) spos.line X.env = pure true) (hs : ∀ x, foldedSetIterable iter X.env x = pure x := by intro _; rfl) (hs1 : ∀ env x, foldedSetIterable iter1 env x = pure x := by intro _ _; rfl) :
    PS X (.Assign [.Name y py] (.ListComp elt [⟨tg, iter, [], 0⟩, ⟨tg1, iter1, [], 0⟩] scope pos) spos) (TrS X.K W (wSetF i (wLc2 wi g wi1 g1 u (own.map (·.2)) vs1))) :=
  ps_imp (ps_setLc2 hc hN hy hyl hsw hi ok hv hg (fun _ _ _ _ _ => x_yes) hi1 hg1 (fun _ _ _ _ _ => x_yes) he hs hs1) fun Dn σ H h => by
  obtain ⟨b, δ, F, E, wf, r, q, k1, k2, k3, k4, k5⟩ := h
  refine tr_lc2 hts hts1 hv ⟨b, δ, F, _, _, wf, r, q, fun d δ1 q1 p F1 H1 wf1 s1 r1 n => ?_, k5_of k5⟩
  obtain ⟨F2, a1, a2, a3, a4⟩ := freeze wf1 r1 n
  exact k1 _ q1 _ F2 H1 a1 (s1.trans a2) (a3.setV a4)
end
/-! f(e, .., k = v, ..) hands back a list of its own -/
section
variable {X : Cx} {K : PySem.W.Frag} {W : WX} {f : Addr} {fd : FuncData} {ps ks : List Str} {ff : Fn} {k n j : Nat} {x : Str} {p pos : Pos} {e : Expr} {es : List Expr} {kws : List Keyword}
def wCallML (f : Fn) (h : Perm) (j m : Nat) (ua uk : Wa) : Wl := fun δ Q Y => ua δ (fun as δ1 => ∃ ds, trees as = some ds ∧ ds.length = j ∧ uk δ1 (fun bs δ2 => ∃ zs, trees bs = some zs ∧ zs.length = m ∧ f ((ds ++ h zs).map S.v) (fun r _ => ∃ xs, r = .l xs ∧ Q xs δ2) (fun _ _ => False)) Y) Y
theorem tr_callML {f : Fn} {h : Perm} {m n j : Nat} {ua uk : Wa} {σ : L2.St} {H : Hp} {Q : VK} (ok : PermOk m h) (hf : ∀ as R Y, f as R Y → as.length = n) (hh : TrL K W (wCallML f h j m ua uk) σ H Q) :
    tCallM (spF K n f) (fun vs zs => vs ++ h zs) j m E0 (TrA K W ua) (TrA K W uk) σ H Q := by
  obtain ⟨b, δ, F, Po, Px, wf, r, q, k, kx⟩ := hh
  refine ⟨b, δ, F, _, _, wf, r, q, fun as δ1 q1 vs F1 H1 wf1 s1 r1 ra => ?_, kx⟩
  obtain ⟨ds, hds, hn, q2⟩ := q1
  have ra1 := reps_of ra hds
  refine ⟨by rw [ra1.length, hn], ⟨b, δ1, F1, _, _, wf1, r1, q2, fun bs δ2 q3 zs F2 H2 wf2 s2 r2 rz => ?_, fun er δ' hx => Xp.back s1 (kx er δ' hx)⟩⟩
  obtain ⟨es, hes, hm, q4⟩ := q3
  have rz1 := reps_of rz hes
  have rr := (ra1.mono s2).append (ok.reps rz1)
  have hn2 : (vs ++ h zs).length = n := by
    have := hf _ _ _ q4
    rw [List.length_map] at this
    rw [rr.length, this]
  refine ⟨by rw [rz1.length, hm], ?_⟩
  show spF K n f (vs ++ h zs) H2 Q E0
  refine sp_call0 wf2.fh rr hn2 q4 (fun rv fin q5 v F' H' w ok => ?_)
  obtain ⟨xs, rfl, q6⟩ := q5
  have ex := ext_of_call w (Same.refl _) fun i x z => by cases z
  obtain ⟨p, rfl, ho, h0⟩ := ok
  exact k _ _ q6 p F' H' (wf2.ext ex) ((s1.trans s2).trans ex.ff) (r2.ext ex) ⟨ho, wf2.live p h0, r2.notNew h0⟩
theorem xl_callM {h : Perm} {ua uk : Wa} (F : FnG X.prog X.w X.K X.mg X.base (L2.CX X.prog X.w) k f fd ps (spF X.K n ff)) (hr : RmG k X.A) (hm : X.mg x = some (.ref f)) (hk : PySem.W.keepIn X.K (.ref f) = true) (hb : KbP X.K fd ps j ks h) (ok : PermOk ks.length h)
    (hf : ∀ as R Y, ff as R Y → as.length = n) (ha : PA X (e :: es) (TrA X.K W ua)) (hkw : PK X kws (TrA X.K W uk)) (hg : Gl X x := by rfl)
    (hall : (backToKw pos (keywordEach kws X.env)).all (·.1.isSome) = true := by rfl) (hks : (backToKw pos (keywordEach kws X.env)).filterMap (·.1) = ks := by rfl) (hdb : (x == ("__debug__" : Str)) = false := by decide)
    (he : starEach (e :: es) X.env = (false, eval e X.env) :: starEach es X.env := by rfl)
    (hpl : ((backTo pos (starEach (e :: es) X.env)).any (·.1) || (backToKw pos (keywordEach kws X.env)).any (·.1.isNone)) = false := by rfl) : PE X (.Call (.Name x p) (e :: es) kws pos) (TrL X.K W (wCallML ff h j ks.length ua uk)) :=
  pe_imp (pe_callM F hr hg hm hk hb passL ha hkw hall hks hdb he hpl) fun _ _ _ => tr_callML ok hf
end
end L3

set_option Elab.async false
set_option linter.all false
set_option maxRecDepth 100000
set_option maxHeartbeats 1000000
/-! own errors held as values -/
namespace L2
open PySem PySem.Spec PyProof.Rows
section
variable {X : Cx} {e : Expr} {te : TE} {pos : Pos}
/-- an error that was made to be raised may be kept as a value -/
theorem pe_of_pmk {t : L2.St → Hp → XK → Prop} (h : PMk X e t) : PE X e (fun σ H Q => t σ H fun cls d H1 => ∀ a, H1 a = none → Q (.ref a) (upd H1 a (L3.ErO cls d a))) := ⟨fun pins s σ H Q I q => by
  refine wpAny_mono (h pins s σ H _ I q) (fun u s1 z => ?_) fun _ _ x => x
  obtain ⟨a, oe, vs, sI, H1, cls, d, hu, J, hk, hn, ha, hz, hv, _, hf, ho, hb, _, qq⟩ := z
  have new : ObjOk X.prog X.w (upd H1 a (L3.ErO cls d a)) s1.heap a (L3.ErO cls d a) := L3.erO_ok ha hz hv
  have J1 := J.laidN (t' := s1.toks) (h' := s1.heap) hk hn hf new
  have J2 : Inv X pins σ (upd H1 a (L3.ErO cls d a)) s1 := by
    obtain ⟨hp, g, dr, tk, os⟩ := s1
    cases (show os = sI.os from ho)
    exact ⟨J1.ok, J1.os, hb, J1.base, J1.loc, J1.cell, J1.free, J1.freeC, J1.pin, J1.hok, J1.len⟩
  exact ⟨.ref a, _, J2, hu, qq a hf⟩⟩
/-- e.f, e such an error -/
def tXo (K : PySem.W.Frag) (f : Str) (te : TE) : TE := fun σ H Q => te σ H fun x H1 => ∃ (a C d : Addr) (fs : List (Str × V)) (v : V), x = .ref a ∧ XfC K C ∧ PySem.W.findIn K (.ref C) f = some none ∧ H1 a = some (L3.ErO (.ref C) (some d) a) ∧ H1 d = some (.xd fs) ∧ fs.lookup f = some v ∧ Q v H1
theorem erO_at {H : Hp} {s : Shared} {pins : List (Addr × Obj)} {σ : L2.St} (I : Inv X pins σ H s) {C a : Addr} {d : Option Addr} {od : Option Obj} (e : H a = some (L3.ErO (.ref C) d a)) (hd : ∀ (ox : Obj) (vs : Array Value), s.heap.get? a = some ox → ox.cls = .ref C → ox.dict = d → ox.data = .fields vs → PySem.W.InstAt s.heap a ox C od) : ∃ ox, PySem.W.InstAt s.heap a ox C od := by
  obtain ⟨ox, vs, h1, hz, hv⟩ := (show ObjOk X.prog X.w H s.heap a (L3.ErO (.ref C) d a) from I.hok a _ e).1
  exact ⟨ox, hd ox vs h1 hz.1 hz.2 hv⟩
theorem erO_inst {H : Hp} {s : Shared} {pins : List (Addr × Obj)} {σ : L2.St} (I : Inv X pins σ H s) {C a : Addr} {d : Option Addr} (e : H a = some (L3.ErO (.ref C) d a)) (he : ∀ dd, d = some dd → ∃ fs, H dd = some (.xd fs)) : ∃ ox od, PySem.W.InstAt s.heap a ox C od := by
  cases d with
  | none =>
    obtain ⟨ox, J⟩ := erO_at (od := none) I e fun ox vs h1 h2 h3 h4 => ⟨h1, h2, by unfold PySem.W.notCls; rw [h4] <;> rfl, by rw [h3]; trivial⟩
    exact ⟨ox, none, J⟩
  | some dd =>
    obtain ⟨fs, hx⟩ := he dd rfl
    obtain ⟨mA, hns, _⟩ := (show ObjOk X.prog X.w H s.heap dd (.xd fs) from I.hok dd _ hx)
    obtain ⟨od, ho, _⟩ := lookIn_ns hns
    obtain ⟨ox, J⟩ := erO_at (od := some od) I e fun ox vs h1 h2 h3 h4 => ⟨h1, h2, by unfold PySem.W.notCls; rw [h4] <;> rfl, by rw [h3]; exact ho⟩
    exact ⟨ox, some od, J⟩
theorem pe_xo {n : Str} (he : PE X e te) (hb : attributeBase e n X.env (eval e X.env) = eval e X.env := by rfl) : PE X (.Attribute e n pos) (tXo X.K n te) := ⟨fun pins s σ H Q I h => by
  refine attr_of hb (thn (he.run pins s σ H _ I h) fun u s1 hh => ?_)
  obtain ⟨x, H1, I1, rx, a, C, dd, fs, v, ex, T, hno, ea, ed, l, q⟩ := hh
  subst ex
  cases (show u = Value.ref a from rx)
  obtain ⟨mA, hns, hr⟩ := (show ObjOk X.prog X.w H1 s1.heap dd (.xd fs) from I1.hok dd _ ed)
  obtain ⟨od, ho, hl⟩ := lookIn_ns hns
  obtain ⟨ox, J⟩ := erO_at (od := some od) I1 ea fun ox vs h1 h2 h3 h4 => ⟨h1, h2, by unfold PySem.W.notCls; rw [h4] <;> rfl, by rw [h3]; exact ho⟩
  obtain ⟨w, hw, rw'⟩ := RelO.some_of (v := v) (o := mA n) (by rw [← l]; exact hr n)
  have fo := PySem.W.findObj_own (od := od) T.hdC hno rfl (by rw [hl, hw])
  exact PySem.HandSPX.exc_get I1.kIn J T.ga T.gg T.exC fo (handed_of rw') ⟨v, H1, I1.tok _, rw', q⟩⟩
/-- isinstance(e, c), e such an error -/
theorem call_isiE : CallR X (.builtin "isinstance") (fun xs H Q => ∃ (a C : Addr) (c : V) (cv : Value) (b : Bool), xs = [.ref a, c] ∧ (∀ u, RelV c u → u = cv) ∧ L2.ExcC X.K C ∧ L3.ErAt H C a ∧ PySem.W.kitOne X.K (.ref C) cv = some b ∧ Q (.bl b) H) := by
  intro pins s σ H xs us Q I r h
  obtain ⟨a, D, c, cv, b, rfl, hcv, C, er, e, q⟩ := h
  obtain ⟨u1, u2, rfl, rx, rt⟩ := vals2 r
  cases (show u1 = Value.ref a from rx)
  cases hcv _ rt
  obtain ⟨d, ea, ed⟩ := er
  obtain ⟨ox, od, J⟩ := erO_inst I ea ed
  have hcl : (PySem.W.clsIn X.K D).isSome = true := by
    obtain ⟨cd, hc, _⟩ := PySem.W.any_some C.hd
    rw [hc]; rfl
  exact PySem.W.kia_one (PySem.W.kitx_exc hcl C.hg C.hk C.hs C.ha C.hn C.ht C.hm) I.kIn J e (fun z => nomatch z) fun tk => ⟨.bl b, H, I.tok tk, rfl, q⟩
end
end L2
namespace L3
open PySem L2
section
variable {X : Cx} {K : PySem.W.Frag} {W : WX} {e : Expr} {pos p1 p2 p3 : Pos} {f C : Addr} {fd : FuncData} {ps : List Str} {x fld : Str} {u : Wt}
theorem b_isiE : CallR X (.builtin "isinstance") (OpC X.K fun ds P => ∃ c d u k, ds = [.er c, d] ∧ clsU d = some u ∧ L2.ExcC X.K c ∧ PySem.W.kitOne X.K (.ref c) u = some k ∧ P (.bl k)) := cr_of call_isiE fun vs H Q h => by
  obtain ⟨F, ds, P, sF, rr, ⟨c, d, u, k, rfl, hc, hx, hk, q⟩, kk⟩ := h
  obtain ⟨v, w, rfl, r1, r2⟩ := reps2 rr
  obtain ⟨a, rfl, er⟩ := r1
  refine ⟨a, c, w, u, k, rfl, ?_, hx, er.mono sF, hk, kk _ q _ F H (Ext.refl sF) rfl⟩
  cases d with
  | ty n =>
    cases hc
    cases (show w = V.ty n from r2)
    exact fun z hz => hz
  | adr a =>
    cases hc
    cases (show w = V.ref a from r2)
    exact fun z hz => hz
  | _ => cases hc
theorem mk_heap {H1 : Hp} {a dx : Addr} {C : Addr} {fld : Str} {v : V} (na : H1 a = none) : upd (del (upd (upd (upd H1 a (exo a C none)) dx (exd dx [(fld, v)])) a (exo a C (some dx))) a) dx (.xd [(fld, v)]) = upd H1 dx (.xd [(fld, v)]) := by
  funext y
  by_cases h1 : y = dx
  · subst h1; rw [upd_same, upd_same]
  · rw [upd_ne h1, upd_ne h1]
    by_cases h2 : y = a
    · subst h2; rw [del_same, na]
    · rw [del_ne h2, upd_ne h2, upd_ne h1, upd_ne h2]
def zIsiE (K : PySem.W.Frag) : OC := fun ds P => ∃ c d u k, ds = [.er c, d] ∧ clsU d = some u ∧ L2.ExcC K c ∧ PySem.W.kitOne K (.ref c) u = some k ∧ P (.bl k)
/-- C(e).fld, C an own error class that keeps its one argument as fld: the argument -/
theorem x_errF (T : Er1 X.K X.mg C f x fld) (F1 : FnOk X.prog X.w X.K X.mg X.base (L2.CX X.prog X.w) 1 f fd ps (spXI C fld)) (hr : RmG 2 X.A) (hb : Binds X.K fd ps []) (ha : PE X e (Tr X.K W u)) (hg : Gl X x := by rfl) (hdb : (x == ("__debug__" : Str)) = false := by decide)
    (he : starEach (e :: []) X.env = (false, eval e X.env) :: starEach [] X.env := by rfl) (hbs : attributeBase (.Call (.Name x p1) [e] [] p2) fld X.env (eval (.Call (.Name x p1) [e] [] p2) X.env) = eval (.Call (.Name x p1) [e] [] p2) X.env := by rfl) :
    PE X (.Attribute (.Call (.Name x p1) [e] [] p2) fld p3) (Tr X.K W u) :=
  pe_imp (pe_xo (pe_of_pmk (pmk_oex T.o T.iC T.tI F1 hr.r hb .nil passL hg T.g (pa_cons ha pa_nil he) hdb he rfl)) hbs) fun σ H Q h => by
  obtain ⟨b, δ, F, Po, Px, wf, r, q, k, kx⟩ := h
  refine ⟨b, δ, F, _, _, wf, r, q, fun d δ1 q1 v F1 H1 wf1 s1 r1 rv => ?_, kx⟩
  refine ⟨by show 1 ≤ 1000; decide, fun a0 n0 => ⟨a0, v, rfl, upd_same, fun dx ndx nd0 => ⟨rfl, dx, [(fld, v)], upd_same, ?_, ?_, ?_⟩⟩⟩
  · rw [upd_ne nd0, upd_same]
  · rw [upd_ne nd0] at ndx; exact ndx
  have n1 : H1 dx = none := by rw [upd_ne nd0] at ndx; exact ndx
  intro a na
  rw [mk_heap n0] at na ⊢
  have nda : dx ≠ a := fun z => by
    subst z; rw [upd_same] at na; cases na
  have ex1 := Ext.beside (o := .xd [(fld, v)]) wf1.fh n1
  have w2 := wf1.ext ex1
  have ex2 := Ext.beside (o := ErO (.ref C) (some dx) a) w2.fh na
  refine ⟨a, C, dx, [(fld, v)], v, rfl, T.xf, T.no, upd_same, by rw [upd_ne nda, upd_same], by simp [List.lookup], ?_⟩
  exact k _ δ1 q1 v _ _ (w2.ext ex2) (s1.trans (ex1.ff.trans ex2.ff)) ((r1.ext ex1).ext ex2) (rv.mono (ex1.ff.trans ex2.ff))
/-- C(e) as a value -/
def wErr (C : Addr) (u : Wt) : Wt := fun δ Q Y => u δ (fun _ δ1 => Q (.er C) δ1) Y
theorem x_err1 (T : Er1 X.K X.mg C f x fld) (F1 : FnOk X.prog X.w X.K X.mg X.base (L2.CX X.prog X.w) 1 f fd ps (spXI C fld)) (hr : RmG 2 X.A) (hb : Binds X.K fd ps []) (ha : PE X e (Tr X.K W u)) (hg : Gl X x := by rfl) (hdb : (x == ("__debug__" : Str)) = false := by decide)
    (he : starEach (e :: []) X.env = (false, eval e X.env) :: starEach [] X.env := by rfl) : PE X (.Call (.Name x p1) [e] [] p2) (Tr X.K W (wErr C u)) :=
  pe_imp (pe_of_pmk (pmk_oex T.o T.iC T.tI F1 hr.r hb .nil passL hg T.g (pa_cons ha pa_nil he) hdb he rfl)) fun σ H Q h => by
  obtain ⟨b, δ, F, Po, Px, wf, r, q, k, kx⟩ := h
  refine ⟨b, δ, F, _, _, wf, r, q, fun d δ1 q1 v F1 H1 wf1 s1 r1 rv => ?_, kx⟩
  refine ⟨by show 1 ≤ 1000; decide, fun a0 n0 => ⟨a0, v, rfl, upd_same, fun dx ndx nd0 => ⟨rfl, dx, [(fld, v)], upd_same, ?_, ?_, ?_⟩⟩⟩
  · rw [upd_ne nd0, upd_same]
  · rw [upd_ne nd0] at ndx; exact ndx
  have n1 : H1 dx = none := by rw [upd_ne nd0] at ndx; exact ndx
  intro a na
  rw [mk_heap n0] at na ⊢
  have nda : dx ≠ a := fun z => by
    subst z; rw [upd_same] at na; cases na
  have ex1 := Ext.new1 (o := .xd [(fld, v)]) wf1.fh n1
  have w2 := wf1.ext ex1
  have ex2 := Ext.new1 (o := ErO (.ref C) (some dx) a) w2.fh na
  exact k _ δ1 q1 _ _ _ (w2.ext ex2) (s1.trans (ex1.ff.trans ex2.ff)) ((r1.ext ex1).ext ex2) ⟨a, rfl, some dx, upd_same, fun dd hd => by cases hd; exact ⟨_, by rw [upd_ne nda, upd_same]⟩⟩
def wErr0 (C : Addr) : Wt := fun δ Q _ => Q (.er C) δ
theorem x_err0 (T : Er0 X.K X.mg C x) (hg : Gl X x := by rfl) (hdb : (x == ("__debug__" : Str)) = false := by decide) : PE X (.Call (.Name x p1) [] [] p2) (Tr X.K W (wErr0 C)) :=
  pe_imp (pe_of_pmk (pmk_own0 F.excBase_ValueError T.q T.g T.k (raises_own T.b T.t) hg hdb)) fun σ H Q h => by
  obtain ⟨b, δ, F, Po, Px, wf, r, q, k, kx⟩ := h
  intro a na
  have ex := Ext.new1 (o := ErO (.ref C) none a) wf.fh na
  exact k _ δ q _ _ _ (wf.ext ex) ex.ff (r.ext ex) ⟨a, rfl, none, upd_same, fun dd hd => by cases hd⟩
theorem r_err {C : Addr} {u : Wt} {δ : List S} {Q : D → List S → Prop} {Y : Er → List S → Prop} (h : u δ (fun _ δ1 => Q (.er C) δ1) Y) : wErr C u δ Q Y := h
theorem r_err0 {C : Addr} {δ : List S} {Q : D → List S → Prop} {Y : Er → List S → Prop} (h : Q (.er C) δ) : wErr0 C δ Q Y := h
/-- {k: i}, a text and a whole number -/
def wDk1 (k : Str) (i : Int) : Wt := fun δ Q _ => Q (.dk [.inr k] [.int i]) δ
theorem x_dk1 {k : Str} {i : Int} {kd1 kd2 : Nat} : PE X (.Dict [some (.Constant (.str k) kd1 p1)] [.Constant (.int i) kd2 p2] pos) (Tr X.K W (wDk1 k i)) :=
  pe_imp (pe_disp (pps_cons pe_str pe_int pps_nil) rfl rfl (by simp) (by simp)) fun σ H Q h => by
  obtain ⟨b, δ, F, Po, Px, wf, r, q, kk, kx⟩ := h
  intro p np
  refine ⟨upd_same, [(.inr k, V.int i)], rfl, by show 1 ≤ 15; decide, ?_⟩
  have e : upd (upd H p (.dK [])) p (.dK (mergeK [] [((.inr k : Key), V.int i)])) = upd H p (.dK [((.inr k : Key), V.int i)]) := by
    funext y
    by_cases z : y = p
    · subst z; rw [upd_same, upd_same]; rfl
    · rw [upd_ne z, upd_ne z, upd_ne z]
  rw [e]
  have ex := Ext.new1 (o := .dK [((.inr k : Key), V.int i)]) wf.fh np
  exact kk _ δ q _ _ _ (wf.ext ex) ex.ff (r.ext ex) ⟨p, [V.int i], rfl, upd_same, rfl, ⟨V.int i, [], rfl, rfl, rfl⟩⟩
theorem r_dk1 {k : Str} {i : Int} {δ : List S} {Q : D → List S → Prop} {Y : Er → List S → Prop} (h : Q (.dk [.inr k] [.int i]) δ) : wDk1 k i δ Q Y := h
end
end L3

set_option Elab.async false
set_option linter.all false
set_option maxRecDepth 100000
set_option maxHeartbeats 4000000
/-! an own error class called by keywords alone -/
namespace PySem
namespace HandSPX
open PySem.W PySem.Calls PyProof.Rows
open Builtin Builtin.ObjectAttr
section
variable {prog : Program} {w : World} {nm q : Str} {C N : Addr} {bs bm bmB : List Value} {hdct : Bool} {sn : List Str} {sub : List Value} {ab : Bool} {col : Option Bool} {dd : Option Addr} {k0 k1 k2 k3 k5 : Option Value} {B newId initId : String}
variable {h : Heap} {g : Array GenState} {d : Drawn} {t : Nat} {os : OsState} {kw : List (Str × Value)}
theorem check_newK {M : Model} {A : Around} {E : Value → Shared → Prop} (F : ExcBaseFacts B newId initId bmB) (hT : ∀ X : String, bm.contains (.type X) = bmB.contains (.type X)) {Q : Unit → Shared → Prop}
    (hC : h.get? C = some (excClassObj nm q C N bs bm hdct sn sub ab col dd k0 k1 k2 k3 k5 newId)) (hq : Q () ⟨h, g, d, t, os⟩) : wpAny M A (checkBuiltinCall newId ⟨[.ref C], kw⟩) Q E ⟨h, g, d, t, os⟩ := by
  have c0 : (Value.ref C :: bm).contains (.type B) = true := by rw [List.contains_cons, hT, F.hasB, Bool.or_true]
  have c1 := F.noStar
  simp only [checkBuiltinCall, F.newKind, F.newSplit, F.newRow]
  repeat (first | refine wpAny_loadPart_at hC ?_ | (refine wpAny_isSubtype_exc hC ?_; rw [c0]) | refine wpAny_staticBase_exc hC ?_ | refine wpAny_madeBy_exc hC ?_ | simp only [bne_self_eq_false, Bool.false_eq_true, if_false] | wp_step)
  exact hq
theorem new_K {A : Around} {R : Result → Shared → Prop} (F : ExcBaseFacts B newId initId bmB) (hT : ∀ X : String, bm.contains (.type X) = bmB.contains (.type X))
    (hC : h.get? C = some (excClassObj nm q C N bs bm hdct sn sub ab col dd k0 k1 k2 k3 k5 newId))
    (hq : R (.ok (.ret (.ref (h.objs.size + 1)))) ⟨(h.push (W.kdv_tup [])).push (excO C h.objs.size), g, d, t, os⟩) : codeAny (model prog w) A (.builtin newId ⟨[.ref C], kw⟩) R ⟨h, g, d, t, os⟩ := by
  have c3 := F.ends
  have c0 : (Value.ref C :: bm).contains (.type B) = true := by rw [List.contains_cons, hT, F.hasB, Bool.or_true]
  have c1 : (Value.ref C :: bm).contains (.type "AttributeError") = false := by rw [List.contains_cons, hT, F.noAttr]; rfl
  have c2 : (Value.ref C :: bm).contains (.type "NameError") = false := by rw [List.contains_cons, hT, F.noName]; rfl
  have hrest : ([] : List Value).length ≤ sizeLine := by show 0 ≤ sizeLine; decide
  refine codeAny_builtinAt F.entry ?_
  unfold Builtin.«BaseException.__new__»
  refine wpAt_bind ?_
  show wpAt _ _ _ (stack >>= _) _ _ _
  refine wpAt_bind (wpAt_stack fun p below => wpAt_of_wpAny ?_)
  wp_walk
  refine wpAt_of_wpAny ?_
  rw [F.owner]
  repeat (first | with_reducible refine wpAny_madeHere_exc F.canon hC ?_ | with_reducible refine wpAny_loadPart_at hC ?_ | (with_reducible refine wpAny_isSubtype_exc hC ?_; first | rw [c0] | rw [c1] | rw [c2]) | wp_step)
  show R _ _
  rw [Heap.size_push]
  exact hq
theorem type_call_K {A : Around} {E : Value → Shared → Prop} {fI : Addr} {Q : Fin → Shared → Prop} (F : ExcBaseFacts B newId initId bmB) (hT : ∀ X : String, bm.contains (.type X) = bmB.contains (.type X))
    (hC : h.get? C = some (excClassObj nm q C N bs bm hdct sn sub ab col dd k0 k1 k2 k3 k5 newId))
    (hi : W.Looks (model prog w) h (typeLookup (.ref C) "__init__") (some (.ref fI))) (hb : ∀ self, W.Looks (model prog w) h (bindSpecial (.ref fI) self) (.ref fI, [self]))
    (hq : codeAny (model prog w) A (.call (.ref fI) ⟨[.ref (h.objs.size + 1)], kw⟩) (fun r s' => match r with | .ok (.ret v) => v = .none ∧ Q (.done (.ret (.ref (h.objs.size + 1)))) s' | .ok _ => False | .error e => E e s') ⟨(h.push (W.kdv_tup [])).push (excO C h.objs.size), g, d, t, os⟩) :
    wpAny (model prog w) A (Builtin.«type.__call__» ⟨[.ref C], kw⟩) Q E ⟨h, g, d, t, os⟩ := by
  repeat (first | with_reducible refine wpAny_loadPart_at hC ?_ | with_reducible refine wpAny_madeBy_exc hC ?_ | wp_step)
  refine codeAny_call_builtin_code (Code.quiet_builtin _ F.quiet) (check_newK F hT hC ?_)
  refine new_K F hT hC ?_
  show wpAny _ _ _ _ _ _
  have k : ∀ b o, h.get? b = some o → ((h.push (W.kdv_tup [])).push (excO C h.objs.size)).get? b = some o := fun b o e => Heap.get?_push_of_some _ (Heap.get?_push_of_some _ e)
  have hC1 := k _ _ hC
  have hg : ((h.push (W.kdv_tup [])).push (excO C h.objs.size)).get? (h.objs.size + 1) = some (excO C h.objs.size) := by heap_get
  have c0 : (Value.ref C :: bm).contains (.ref C) = true := by simp
  have i1 := hi.keeps k
  have b1 := (hb (.ref (h.objs.size + 1))).keeps k
  unfold isInstance
  repeat (first | with_reducible refine wpAny_loadPart_at hg ?_ | (with_reducible refine wpAny_isSubtype_exc hC1 ?_; rw [c0]) | wp_step)
  show wpAny _ _ (typeLookup (.ref C) _) _ _ _
  refine i1.at ?_
  refine wpAny_holding (wpAny_bind (b1.at ?_))
  refine wpAny_bind (wpAny_call (codeAny_mono hq fun r s' z => ?_))
  rcases r with e | (v | _ | _ | _) <;> first | exact z | exact z.elim | skip
  obtain ⟨rfl, z⟩ := z
  first
    | exact wpAny_pure (wpAny_pure z)
    | (wp_walk; exact z)
theorem call_K {A : Around} {R : Result → Shared → Prop} {fI : Addr} (F : ExcBaseFacts B newId initId bmB) (hT : ∀ X : String, bm.contains (.type X) = bmB.contains (.type X))
    (hC : h.get? C = some (excClassObj nm q C N bs bm hdct sn sub ab col dd k0 k1 k2 k3 k5 newId))
    (hi : W.Looks (model prog w) h (typeLookup (.ref C) "__init__") (some (.ref fI))) (hb : ∀ self, W.Looks (model prog w) h (bindSpecial (.ref fI) self) (.ref fI, [self]))
    (hq : codeAny (model prog w) (A.under (.builtin "type.__call__" ⟨[.ref C], kw⟩)) (.call (.ref fI) ⟨[.ref (h.objs.size + 1)], kw⟩) (W.InitBack (h.objs.size + 1) R) ⟨(h.push (W.kdv_tup [])).push (excO C h.objs.size), g, d, t, os⟩) :
    codeAny (model prog w) A (.call (.ref C) ⟨[], kw⟩) R ⟨h, g, d, t, os⟩ := by
  have f1 := tc_lookup
  have f2 := tc_bind (.ref C)
  have hTy : (⟨h, g, d, t, os⟩ : Shared).TypeIs (.ref C) "type" := ⟨_, hC, rfl⟩
  refine codeAny_of_tree ?_
  show wpAny _ _ (callAny (.ref C) _) _ _ _
  repeat (any_goals (first | assumption | with_reducible refine wpAny_loadPart_at hC ?_ | wp_step))
  refine ⟨rfl, ?_⟩
  refine codeAny_call_builtin_at (Code.quiet_builtin _ (by decide +kernel)) entry_typeCall (wpAny_check_type_call_sub hC (type_call_K F hT hC hi hb ?_))
  refine codeAny_mono hq fun r s' z => ?_
  rcases r with e | (v | _ | _ | _) <;> exact z
end
end HandSPX
end PySem
namespace L2
open PySem PySem.Spec PyProof.Rows
section
variable {X : Cx} {p pos : Pos} {kws : List Keyword} {tk : TA}
/-- C(k = v, ..), C's own __init__ keeping sp -/
def tMkK (C : Addr) (m : Nat) (sp : Sp) (gV : List V → List V → List V) (tk : TA) : St → Hp → XK → Prop := fun σ H Q => tk σ H fun zs H1 => zs.length = m ∧ ∀ a, H1 a = none → sp (gV [.ref a] zs) (upd H1 a (exo a C none))
  (fun v H2 => v = .non ∧ ∃ (d : Addr) (fs : List (Str × V)), H2 a = some (exo a C (some d)) ∧ H2 d = some (exd d fs) ∧ H1 d = none ∧ Q (.ref C) (some d) (upd (del H2 a) d (.xd fs))) (fun _ _ _ => False)
theorem pmk_oexK {CX : CXT} {x : Str} {C fI : Addr} {k : Nat} {fd : FuncData} {ps ks : List Str} {sp : Sp} {gg : List Value → List Value → List Value} {gV : List V → List V → List V} (T : OexC X.K C) (iC : PySem.W.findIn X.K (.ref C) "__init__" = some (some (.ref fI))) (tI : PySem.W.typeIn X.K (.ref fI) = some (.type "function"))
    (F1 : FnOk X.prog X.w X.K X.mg X.base CX k fI fd ps sp) (hr : Room (k + 1) X.A) (hb : KBn X.K fd ps 1 ks gg gV) (hx : Passes CX X (fun _ _ _ => False)) (hg : Gl X x) (hm : X.mg x = some (.ref C)) (hkw : PK X kws tk)
    (hall : (backToKw pos (keywordEach kws X.env)).all (·.1.isSome) = true := by rfl) (hks : (backToKw pos (keywordEach kws X.env)).filterMap (·.1) = ks := by rfl) (hdb : (x == ("__debug__" : Str)) = false := by decide)
    (hpl : ((backTo pos (starEach [] X.env)).any (·.1) || (backToKw pos (keywordEach kws X.env)).any (·.1.isNone)) = false := by rfl) : PMk X (.Call (.Name x p) [] kws pos) (tMkK C ks.length sp gV tk) := by
  intro pins s σ H Q I h
  obtain ⟨nm, q, N, bs, bm, sn, sub, ab, col, dd, k0, k1, k2, k3, k5, hC, hbm⟩ := T.cls
  refine wpAny_Call_Name_kw (ld_glob I hg hm ?_ hdb)
  refine PySem.W.callWith_KW0 (h₀ := X.base) I.ok.mod.kin T.kC hall ?_ hpl
  refine thn (hkw.run pos pins s σ H _ I h) fun ws s1 ⟨zs, H1, I1, rz, l2, q1⟩ => ⟨I1.kIn, ?_⟩
  rw [hks]
  obtain ⟨hp, g, dr, tk', os⟩ := s1
  have hsz : hp.objs.size ≤ hp.objs.size + 1 := Nat.le_succ _
  have hq := q1 (hp.objs.size + 1) (I1.hok.fresh hsz)
  have kk : ∀ b o, hp.get? b = some o → ((hp.push (PySem.W.kdv_tup [])).push (PySem.HandSPX.excO C hp.objs.size)).get? b = some o := fun b o e => Heap.get?_push_of_some _ (Heap.get?_push_of_some _ e)
  have hget : ((hp.push (PySem.W.kdv_tup [])).push (PySem.HandSPX.excO C hp.objs.size)).get? (hp.objs.size + 1) = some (PySem.HandSPX.excO C hp.objs.size) := by heap_get
  have I2 : Inv X pins σ (upd H1 (hp.objs.size + 1) (exo (hp.objs.size + 1) C none)) ⟨(hp.push (PySem.W.kdv_tup [])).push (PySem.HandSPX.excO C hp.objs.size), g, dr, tk', os⟩ :=
    I1.laid (t' := tk') (a := hp.objs.size + 1) (o := exo (hp.objs.size + 1) C none) (h' := (hp.push (PySem.W.kdv_tup [])).push (PySem.HandSPX.excO C hp.objs.size)) kk hsz (exo_ok hget)
  have r1 : Vals [V.ref (hp.objs.size + 1)] [Value.ref (hp.objs.size + 1)] := .cons rfl .nil
  have r2 := hb.rel r1 rz
  have run := F1.run _ X.stack _ _ ⟨[Value.ref (hp.objs.size + 1)], ks.zip ws⟩ (gg [Value.ref (hp.objs.size + 1)] ws) _ _ (fun _ _ _ => False) (hr.make C [] (ks.zip ws)) (I2.env0.make C [] (ks.zip ws)) (hb.to _ [Value.ref (hp.objs.size + 1)] ws I2.kIn rfl (rz.length.symm.trans l2)) r2 hq
  refine wpAny_call (PySem.HandSPX.call_K F.excBase_ValueError (fun Y => PySem.HandSPX.refsVE_contains Y bm hbm) (I1.kIn _ _ hC) (PySem.W.looks_findIn I1.kIn iC) (fun self => PySem.W.bind_fn I1.kIn self tI) (codeAny_mono run fun r s' hq' => ?_))
  cases r with
  | error er => exact hx pins σ _ _ er s' I2 hq'
  | ok fl =>
    cases fl with
    | ret u =>
      obtain ⟨v, H2, os2, bare2, un2, hok2, rv, ev, d, fs, ea, ed, hd1, q2⟩ := hq'
      subst ev
      obtain ⟨h2, g2, d2, t2, os'⟩ := s'
      exact ⟨rv, mk_end (raises_own T.exC T.tyC) I1 hsz kk un2 hok2 os2 bare2 ea ed hd1 q2⟩
    | next => exact False.elim hq'
    | brk => exact False.elim hq'
    | cont => exact False.elim hq'
end
end L2

namespace L3
open PySem L2
section
variable {X : Cx} {K : PySem.W.Frag} {W : WX} {pos p1 p2 p3 : Pos} {f C : Addr} {fd : FuncData} {ps ks : List Str} {x fld : Str} {uk : Wa} {kws : List Keyword}
/-- C(k = e).fld: the argument -/
def wErrK (uk : Wa) : Wt := fun δ Q Y => uk δ (fun as δ1 => ∃ d, trees as = some [d] ∧ Q d δ1) Y
theorem x_errFK (T : Er1 X.K X.mg C f x fld) (F1 : FnOk X.prog X.w X.K X.mg X.base (L2.CX X.prog X.w) 1 f fd ps (spXI C fld)) (hr : RmG 2 X.A) (hb : KbP X.K fd ps 1 ks pId) (hn : ks.length = 1) (hkw : PK X kws (TrA X.K W uk)) (hg : Gl X x := by rfl)
    (hall : (backToKw p2 (keywordEach kws X.env)).all (·.1.isSome) = true := by rfl) (hks : (backToKw p2 (keywordEach kws X.env)).filterMap (·.1) = ks := by rfl) (hdb : (x == ("__debug__" : Str)) = false := by decide)
    (hpl : ((backTo p2 (starEach [] X.env)).any (·.1) || (backToKw p2 (keywordEach kws X.env)).any (·.1.isNone)) = false := by rfl) (hbs : attributeBase (.Call (.Name x p1) [] kws p2) fld X.env (eval (.Call (.Name x p1) [] kws p2) X.env) = eval (.Call (.Name x p1) [] kws p2) X.env := by rfl) :
    PE X (.Attribute (.Call (.Name x p1) [] kws p2) fld p3) (Tr X.K W (wErrK uk)) :=
  pe_imp (pe_xo (pe_of_pmk (pmk_oexK T.o T.iC T.tI F1 hr.r hb passL hg T.g hkw hall hks hdb hpl)) hbs) fun σ H Q h => by
  obtain ⟨b, δ, F, Po, Px, wf, r, q, k, kx⟩ := h
  refine ⟨b, δ, F, _, _, wf, r, q, fun as δ1 q1 zs F1 H1 wf1 s1 r1 ra => ?_, kx⟩
  obtain ⟨d, hd, q1⟩ := q1
  obtain ⟨v, rfl, rv⟩ := reps1 (reps_of ra hd)
  refine ⟨by rw [hn]; rfl, fun a0 n0 => ⟨a0, v, rfl, upd_same, fun dx ndx nd0 => ⟨rfl, dx, [(fld, v)], upd_same, ?_, ?_, ?_⟩⟩⟩
  · rw [upd_ne nd0, upd_same]
  · rw [upd_ne nd0] at ndx; exact ndx
  have n1 : H1 dx = none := by rw [upd_ne nd0] at ndx; exact ndx
  intro a na
  rw [mk_heap n0] at na ⊢
  have nda : dx ≠ a := fun z => by
    subst z; rw [upd_same] at na; cases na
  have ex1 := Ext.beside (o := .xd [(fld, v)]) wf1.fh n1
  have w2 := wf1.ext ex1
  have ex2 := Ext.beside (o := ErO (.ref C) (some dx) a) w2.fh na
  refine ⟨a, C, dx, [(fld, v)], v, rfl, T.xf, T.no, upd_same, by rw [upd_ne nda, upd_same], by simp [List.lookup], ?_⟩
  exact k _ δ1 q1 v _ _ (w2.ext ex2) (s1.trans (ex1.ff.trans ex2.ff)) ((r1.ext ex1).ext ex2) (rv.mono (ex1.ff.trans ex2.ff))
theorem r_errK {uk : Wa} {δ : List S} {Q : D → List S → Prop} {Y : Er → List S → Prop} (h : uk δ (fun as δ1 => ∃ d, trees as = some [d] ∧ Q d δ1) Y) : wErrK uk δ Q Y := h
theorem tr_nil {σ : L2.St} {H : Hp} {Q : List V → Hp → Prop} (h : TrA K W wNil σ H Q) : Q [] H := by
  obtain ⟨b, δ, F, Po, Px, wf, r, q, k, kx⟩ := h
  exact k [] δ q [] F H wf (Same.refl _) r .nil
/-- f() -/
theorem x_call0 {k n : Nat} {ff : Fn} {dvs : List V} {dvl : List Value} {dd : List D} (F : FnG X.prog X.w X.K X.mg X.base (L2.CX X.prog X.w) k f fd ps (spF X.K n ff)) (hr : RmG k X.A) (hm : X.mg x = some (.ref f)) (hk : PySem.W.keepIn X.K (.ref f) = true) (hb : Binds X.K fd ps dvl) (hd : Vals dvs dvl) (hdd : ∀ F, Reps X.K F dd dvs)
    (tk : Takes X W) (hf : ∀ as R Y, ff as R Y → as.length = n) (hg : Gl X x := by rfl) (hdb : (x == ("__debug__" : Str)) = false := by decide) : PE X (.Call (.Name x p1) [] [] p2) (Tr X.K W (wCall ff dd wNil)) :=
  pe_imp (pe_callG0 F hr hg hm hk hb hd (fun σ => passAt tk σ) hdb) fun _ _ _ h => tr_nil (tr_call hdd hf h)
end
end L3

set_option Elab.async false
set_option linter.all false
set_option maxRecDepth 100000
set_option maxHeartbeats 1000000
namespace K02
open PySem L2 L3
/-- the divisor that brings to lowest terms, a bottom above 0 -/
def gd (a b : Int) : Int := if b < 0 then -((Nat.gcd a.natAbs b.natAbs : Nat) : Int) else ((Nat.gcd a.natAbs b.natAbs : Nat) : Int)
def nm (a b : Int) : Int × Int := (a.fdiv (gd a b), b.fdiv (gd a b))
/-- fewer than k binary figures -/
def B (k : Nat) (a : Int) : Prop := a.natAbs < 2 ^ k
theorem B.mono {j k : Nat} {a : Int} (h : B j a) (q : j ≤ k) : B k a := Nat.lt_of_lt_of_le h (Nat.pow_le_pow_right (by omega) q)
theorem B.mul {j k : Nat} {a b : Int} (h : B j a) (h' : B k b) : B (j + k) (a * b) := by
  unfold B at *
  rw [Int.natAbs_mul, Nat.pow_add]
  exact Nat.mul_lt_mul'' h h'
theorem B.add {k : Nat} {a b : Int} (h : B k a) (h' : B k b) : B (k + 1) (a + b) := by
  unfold B at *
  have := Int.natAbs_add_le a b
  rw [Nat.pow_succ]; omega
theorem B.neg {k : Nat} {a : Int} (h : B k a) : B k (-a) := by
  unfold B at *
  rw [Int.natAbs_neg]; exact h
theorem B.sub {k : Nat} {a b : Int} (h : B k a) (h' : B k b) : B (k + 1) (a - b) := by
  rw [Int.sub_eq_add_neg]; exact h.add h'.neg
theorem B.mulW {j k : Nat} {a b : Int} (h : B j a) (h' : B k b) (q : j + k ≤ 100000) : CMulW a b := wide_mul (h.mono (Nat.le_succ j)) (h'.mono (Nat.le_succ k)) (by omega) (by omega) (by omega)
theorem gcd_pos {a b : Int} (hb : b ≠ 0) : 0 < Nat.gcd a.natAbs b.natAbs := Nat.gcd_pos_of_pos_right _ (by omega)
theorem gd_ne {a b : Int} (hb : b ≠ 0) : gd a b ≠ 0 := by
  have := gcd_pos (a := a) hb
  unfold gd
  split <;> omega
theorem gd_abs (a b : Int) : (gd a b).natAbs = Nat.gcd a.natAbs b.natAbs := by
  unfold gd
  split
  · rw [Int.natAbs_neg, Int.natAbs_natCast]
  · rw [Int.natAbs_natCast]
theorem gd_div {a b : Int} (k : Int) (hb : b ≠ 0) (sb : B 9000 b) : CDivF k (gd a b) := by
  refine ⟨gd_ne hb, PySem.Flt.log2_lt_of (by omega) ?_⟩
  rw [gd_abs]
  have := Nat.gcd_le_right (m := a.natAbs) (n := b.natAbs) (by omega)
  exact Nat.lt_of_le_of_lt this sb
theorem nm_parts {a b : Int} (hb : b ≠ 0) : a = gd a b * (nm a b).1 ∧ b = gd a b * (nm a b).2 := by
  have h1 : gd a b ∣ a := by
    rw [← Int.natAbs_dvd_natAbs, gd_abs]; exact Nat.gcd_dvd_left _ _
  have h2 : gd a b ∣ b := by
    rw [← Int.natAbs_dvd_natAbs, gd_abs]; exact Nat.gcd_dvd_right _ _
  have hg := gd_ne (a := a) hb
  obtain ⟨x, hx⟩ := h1
  obtain ⟨y, hy⟩ := h2
  have e1 : (nm a b).1 = x := by
    show a.fdiv (gd a b) = x
    have := Int.mul_fdiv_cancel_left (a := gd a b) x hg
    rw [← hx] at this; exact this
  have e2 : (nm a b).2 = y := by
    show b.fdiv (gd a b) = y
    have := Int.mul_fdiv_cancel_left (a := gd a b) y hg
    rw [← hy] at this; exact this
  rw [e1, e2]; exact ⟨hx, hy⟩
structure Rt (k : Nat) (p : Int × Int) : Prop where
  pos : 0 < p.2
  co : Nat.gcd p.1.natAbs p.2.natAbs = 1
  b1 : B k p.1
  b2 : B k p.2
theorem Rt.mono {j k : Nat} {p : Int × Int} (h : Rt j p) (q : j ≤ k) : Rt k p := ⟨h.pos, h.co, h.b1.mono q, h.b2.mono q⟩
theorem nm_cross {a b : Int} (hb : b ≠ 0) : (nm a b).1 * b = a * (nm a b).2 := by
  obtain ⟨h1, h2⟩ := nm_parts (a := a) hb
  generalize hp : nm a b = p at *
  generalize gd a b = g at *
  grind
theorem nm_rt {k : Nat} {a b : Int} (hb : b ≠ 0) (ba : B k a) (bb : B k b) : Rt k (nm a b) := by
  obtain ⟨h1, h2⟩ := nm_parts (a := a) hb
  have hab := gd_abs a b
  have hgp := gcd_pos (a := a) hb
  have n1 : a.natAbs = Nat.gcd a.natAbs b.natAbs * (nm a b).1.natAbs := by
    have := congrArg Int.natAbs h1
    rw [Int.natAbs_mul, hab] at this; exact this
  have n2 : b.natAbs = Nat.gcd a.natAbs b.natAbs * (nm a b).2.natAbs := by
    have := congrArg Int.natAbs h2
    rw [Int.natAbs_mul, hab] at this; exact this
  have co : Nat.gcd (nm a b).1.natAbs (nm a b).2.natAbs = 1 := by
    have e : Nat.gcd a.natAbs b.natAbs * Nat.gcd (nm a b).1.natAbs (nm a b).2.natAbs = Nat.gcd a.natAbs b.natAbs * 1 := by
      rw [← Nat.gcd_mul_left, ← n1, ← n2, Nat.mul_one]
    exact Nat.eq_of_mul_eq_mul_left hgp e
  have le1 : (nm a b).1.natAbs ≤ a.natAbs := by
    have := Nat.le_mul_of_pos_left (nm a b).1.natAbs hgp
    omega
  have le2 : (nm a b).2.natAbs ≤ b.natAbs := by
    have := Nat.le_mul_of_pos_left (nm a b).2.natAbs hgp
    omega
  refine ⟨?_, co, Nat.lt_of_le_of_lt le1 ba, Nat.lt_of_le_of_lt le2 bb⟩
  have hne : (nm a b).2 ≠ 0 := fun z => by rw [z, Int.mul_zero] at h2; exact hb h2
  rcases Int.lt_or_gt_of_ne hne with z | z
  · exfalso
    by_cases q : b < 0
    · have hg : gd a b < 0 := by unfold gd; rw [if_pos q]; omega
      have := Int.mul_pos_of_neg_of_neg hg z
      omega
    · have hg : 0 < gd a b := by unfold gd; rw [if_neg q]; omega
      have := Int.mul_neg_of_pos_of_neg hg z
      omega
  · exact z
theorem rt_uniq {j k : Nat} {p q : Int × Int} (hp : Rt j p) (hq : Rt k q) (h : p.1 * q.2 = q.1 * p.2) : p = q := by
  have hn : p.1.natAbs * q.2.natAbs = q.1.natAbs * p.2.natAbs := by
    have := congrArg Int.natAbs h
    rw [Int.natAbs_mul, Int.natAbs_mul] at this; exact this
  have d1 : p.2.natAbs ∣ q.2.natAbs := by
    have : p.2.natAbs ∣ p.1.natAbs * q.2.natAbs := ⟨q.1.natAbs, by rw [hn, Nat.mul_comm]⟩
    exact (Nat.Coprime.dvd_of_dvd_mul_left (Nat.Coprime.symm hp.co) this)
  have d2 : q.2.natAbs ∣ p.2.natAbs := by
    have : q.2.natAbs ∣ q.1.natAbs * p.2.natAbs := ⟨p.1.natAbs, by rw [← hn, Nat.mul_comm]⟩
    exact (Nat.Coprime.dvd_of_dvd_mul_left (Nat.Coprime.symm hq.co) this)
  have e := Nat.dvd_antisymm d1 d2
  have h1 := hp.pos
  have h2 := hq.pos
  have e2 : p.2 = q.2 := by omega
  have e1 : p.1 = q.1 := by
    rw [e2] at h
    exact Int.eq_of_mul_eq_mul_right (by omega) h
  exact Prod.ext e1 e2
theorem nm_eq {k : Nat} {p : Int × Int} {a b : Int} (hb : b ≠ 0) (hp : Rt k p) (h : p.1 * b = a * p.2) : nm a b = p := by
  have hr : Rt (a.natAbs + b.natAbs + 1) (nm a b) := nm_rt hb (by unfold B; exact Nat.lt_of_lt_of_le Nat.lt_two_pow_self (Nat.pow_le_pow_right (by omega) (by omega))) (by unfold B; exact Nat.lt_of_lt_of_le Nat.lt_two_pow_self (Nat.pow_le_pow_right (by omega) (by omega)))
  refine rt_uniq hr hp ?_
  have c := nm_cross (a := a) hb
  -- (x * p2) * b = (p1 * y) * b
  refine Int.eq_of_mul_eq_mul_right hb ?_
  generalize nm a b = n at *
  grind
theorem nm_id {k : Nat} {p : Int × Int} (hp : Rt k p) : nm p.1 p.2 = p := nm_eq (by have := hp.pos; omega) hp rfl
theorem rt_int {k : Nat} {n : Int} (h : B k n) (hk : 1 ≤ k) : Rt k (n, 1) := ⟨by show (0 : Int) < 1; omega, Nat.gcd_one_right _, h, by unfold B; show 1 < 2 ^ k; exact Nat.one_lt_two_pow (by omega)⟩
theorem nm_one (n : Int) : nm n 1 = (n, 1) := nm_id (k := n.natAbs + 1) (rt_int (by unfold B; exact Nat.lt_of_lt_of_le Nat.lt_two_pow_self (Nat.pow_le_pow_right (by omega) (by omega))) (by omega))
/-- the value -/
def vl (p : Int × Int) : Rat := (p.1 : Rat) / (p.2 : Rat)
theorem cast_ne {b : Int} (h : b ≠ 0) : (b : Rat) ≠ 0 := by
  intro z
  exact h (by exact_mod_cast z)
theorem vl_nm {a b : Int} (hb : b ≠ 0) : vl (nm a b) = (a : Rat) / (b : Rat) := by
  obtain ⟨h1, h2⟩ := nm_parts (a := a) hb
  have hg := gd_ne (a := a) hb
  have hne : (nm a b).2 ≠ 0 := fun z => by rw [z, Int.mul_zero] at h2; exact hb h2
  have c := nm_cross (a := a) hb
  have c' : ((nm a b).1 : Rat) * (b : Rat) = (a : Rat) * ((nm a b).2 : Rat) := by
    rw [← Rat.intCast_mul, ← Rat.intCast_mul, c]
  have k1 := cast_ne hb
  have k2 := cast_ne hne
  unfold vl
  grind
theorem vl_eq {j k : Nat} {p q : Int × Int} (hp : Rt j p) (hq : Rt k q) (h : vl p = vl q) : p = q := by
  refine rt_uniq hp hq ?_
  have k1 := cast_ne (show p.2 ≠ 0 by have := hp.pos; omega)
  have k2 := cast_ne (show q.2 ≠ 0 by have := hq.pos; omega)
  have c : (p.1 : Rat) * (q.2 : Rat) = (q.1 : Rat) * (p.2 : Rat) := by
    unfold vl at h
    grind
  rw [← Rat.intCast_mul, ← Rat.intCast_mul] at c
  exact Rat.intCast_inj.mp c
end K02

set_option Elab.async false
set_option linter.all false
set_option maxRecDepth 100000
set_option maxHeartbeats 1000000
/-! exact numbers: their size, their two forms -/
namespace L3
open PySem L2
open K02 (nm gd Rt nm_eq nm_rt nm_cross)
theorem num_div_den' (r : Rat) : ((r.num : Int) : Rat) / ((r.den : Nat) : Rat) = r := by
  rw [← Rat.mkRat_eq_div, Rat.mkRat_self]
class Sz (k : outParam Nat) (r : Rat) : Prop where
  n : r.num.natAbs < 2 ^ k
  d : r.den < 2 ^ k
theorem Sz.pos {k : Nat} {r : Rat} (h : Sz k r) : 1 ≤ k := by
  have := h.d
  have := r.den_pos
  cases k with
  | zero => simp at *; omega
  | succ k => omega
theorem Sz.mono {j k : Nat} {r : Rat} (h : Sz j r) (q : j ≤ k) : Sz k r := ⟨Nat.lt_of_lt_of_le h.n (Nat.pow_le_pow_right (by omega) q), Nat.lt_of_lt_of_le h.d (Nat.pow_le_pow_right (by omega) q)⟩
theorem Sz.bn {k : Nat} {r : Rat} (h : Sz k r) : K02.B k r.num := h.n
theorem Sz.bd {k : Nat} {r : Rat} (h : Sz k r) : K02.B k (r.den : Int) := by unfold K02.B; rw [Int.natAbs_natCast]; exact h.d
theorem mk_le (n : Int) (d : Nat) (hd : 0 < d) : (mkRat n d).num.natAbs ≤ n.natAbs ∧ (mkRat n d).den ≤ d := by
  rw [Rat.num_mkRat, Rat.den_mkRat, if_neg (by omega), if_neg (by omega)]
  refine ⟨?_, Nat.div_le_self _ _⟩
  have hg : 0 < d.gcd n.natAbs := Nat.gcd_pos_of_pos_left _ hd
  have h1 : ((d.gcd n.natAbs : Nat) : Int) ∣ n := by
    rw [← Int.natAbs_dvd_natAbs, Int.natAbs_natCast]; exact Nat.gcd_dvd_right _ _
  obtain ⟨z, hz⟩ := h1
  have gne : ((d.gcd n.natAbs : Nat) : Int) ≠ 0 := by omega
  generalize d.gcd n.natAbs = g at *
  have e : n / (g : Int) = z := Int.ediv_eq_of_eq_mul_right gne hz
  rw [e]
  have : n.natAbs = g * z.natAbs := by
    rw [hz, Int.natAbs_mul, Int.natAbs_natCast]
  have := Nat.le_mul_of_pos_left z.natAbs hg
  omega
theorem sz_mk {k : Nat} {n : Int} {d : Nat} (hd : 0 < d) (h1 : n.natAbs < 2 ^ k) (h2 : d < 2 ^ k) : Sz k (mkRat n d) := by
  obtain ⟨a, b⟩ := mk_le n d hd
  exact ⟨by omega, by omega⟩
instance sz_add {j k : Nat} {r s : Rat} [h : Sz j r] [h' : Sz k s] : Sz (j + k + 1) (r + s) := by
  rw [Rat.add_def']
  have hd : 0 < r.den * s.den := Nat.mul_pos r.den_pos s.den_pos
  refine sz_mk hd ?_ ?_
  · have := ((h.bn.mul h'.bd).add (by have := h'.bn.mul h.bd; rwa [Nat.add_comm k j] at this))
    exact this
  · have := (Nat.mul_lt_mul'' h.d h'.d)
    rw [← Nat.pow_add] at this
    rw [Nat.pow_succ]; omega
instance sz_neg {k : Nat} {r : Rat} [h : Sz k r] : Sz k (-r) := ⟨by rw [Rat.neg_num, Int.natAbs_neg]; exact h.n, by rw [Rat.neg_den]; exact h.d⟩
instance sz_sub {j k : Nat} {r s : Rat} [h : Sz j r] [h' : Sz k s] : Sz (j + k + 1) (r - s) := by
  rw [Rat.sub_eq_add_neg]; exact sz_add
instance sz_mul {j k : Nat} {r s : Rat} [h : Sz j r] [h' : Sz k s] : Sz (j + k) (r * s) := by
  rw [Rat.mul_def']
  refine sz_mk (Nat.mul_pos r.den_pos s.den_pos) ?_ ?_
  · exact h.bn.mul h'.bn
  · rw [Nat.pow_add]; exact Nat.mul_lt_mul'' h.d h'.d
instance sz_inv {k : Nat} {r : Rat} [h : Sz k r] : Sz k (r⁻¹) := by
  have hp := h.pos
  refine ⟨?_, ?_⟩
  · rw [Rat.num_inv, Int.natAbs_mul, Int.natAbs_natCast]
    have h1 : r.num.sign.natAbs ≤ 1 := by
      rcases Int.lt_trichotomy r.num 0 with z | z | z
      · rw [Int.sign_eq_neg_one_of_neg z]; decide
      · rw [z]; decide
      · rw [Int.sign_eq_one_of_pos z]; decide
    have := Nat.mul_le_mul_right r.den h1
    have := h.d
    omega
  · rw [Rat.den_inv]
    split
    · exact Nat.one_lt_two_pow (by omega)
    · exact h.n
instance sz_div {j k : Nat} {r s : Rat} [h : Sz j r] [h' : Sz k s] : Sz (j + k) (r / s) := by
  rw [Rat.div_def]; exact sz_mul
theorem sz_int {k : Nat} {n : Int} (h : K02.B k n) (hk : 1 ≤ k) : Sz k (n : Rat) := ⟨h, by show 1 < 2 ^ k; exact Nat.one_lt_two_pow (by omega)⟩
instance sz_zero : Sz 1 (0 : Rat) := ⟨by decide, by decide⟩
instance sz_one : Sz 1 (1 : Rat) := ⟨by decide, by decide⟩
instance sz_two : Sz 2 (2 : Rat) := ⟨by decide, by decide⟩
theorem nm_q {a b : Int} (hb : b ≠ 0) : nm a b = (((a : Rat) / (b : Rat)).num, ((((a : Rat) / (b : Rat)).den : Nat) : Int)) := by
  have hq : ((((a : Rat) / (b : Rat)).num : Int) : Rat) * (b : Rat) = (a : Rat) * ((((a : Rat) / (b : Rat)).den : Nat) : Rat) := by
    have e := num_div_den' ((a : Rat) / (b : Rat))
    have k1 := K02.cast_ne hb
    have k2 : (((((a : Rat) / (b : Rat)).den) : Nat) : Rat) ≠ 0 := by
      intro z
      have := ((a : Rat) / (b : Rat)).den_nz
      exact this (by exact_mod_cast z)
    generalize ((a : Rat) / (b : Rat)).num = N at *
    generalize ((a : Rat) / (b : Rat)).den = M at *
    grind
  have hp := ((a : Rat) / (b : Rat)).den_pos
  have hr := ((a : Rat) / (b : Rat)).reduced
  generalize ((a : Rat) / (b : Rat)).num = N at *
  generalize ((a : Rat) / (b : Rat)).den = M at *
  have hc : N * b = a * (M : Int) := by
    apply Rat.intCast_inj.mp
    rw [Rat.intCast_mul, Rat.intCast_mul]; exact hq
  have big : ∀ x : Nat, x < 2 ^ (N.natAbs + M + 1) → x < 2 ^ (N.natAbs + M + 1) := fun _ h => h
  have lt : ∀ x : Nat, x ≤ N.natAbs + M + 1 → x < 2 ^ (N.natAbs + M + 1) := fun x h => Nat.lt_of_le_of_lt h Nat.lt_two_pow_self
  refine nm_eq (k := N.natAbs + M + 1) hb ⟨by show (0 : Int) < (M : Int); omega, by show Nat.gcd N.natAbs (M : Int).natAbs = 1; rw [Int.natAbs_natCast]; exact hr, lt _ (by show N.natAbs ≤ _; omega), by show (M : Int).natAbs < _; rw [Int.natAbs_natCast]; exact lt _ (by omega)⟩ hc
/-- a number as two integers -/
abbrev pr (r : Rat) : D := .tup [.int r.num, .int (r.den : Int)]
/-- a Ratio -/
abbrev raC (C : Addr) (r : Rat) : D := .obj C ["_top", "_bottom"] [.int r.num, .int (r.den : Int)]
theorem den_ne (r : Rat) : (r.den : Int) ≠ 0 := by have := r.den_pos; omega
theorem dd_ne (r s : Rat) : (r.den : Int) * (s.den : Int) ≠ 0 := Int.mul_ne_zero (den_ne r) (den_ne s)
theorem cast_den (r : Rat) : ((r.den : Int) : Rat) ≠ 0 := K02.cast_ne (den_ne r)
theorem q_self (r : Rat) : ((r.num : Int) : Rat) / (((r.den : Nat) : Int) : Rat) = r := num_div_den' r
theorem q_add (r s : Rat) : ((r.num * (s.den : Int) + s.num * (r.den : Int) : Int) : Rat) / (((r.den : Int) * (s.den : Int) : Int) : Rat) = r + s := by
  have h1 := q_self r
  have h2 := q_self s
  have k1 := cast_den r
  have k2 := cast_den s
  rw [Rat.intCast_add, Rat.intCast_mul, Rat.intCast_mul, Rat.intCast_mul]
  grind
theorem q_sub (r s : Rat) : ((r.num * (s.den : Int) - s.num * (r.den : Int) : Int) : Rat) / (((r.den : Int) * (s.den : Int) : Int) : Rat) = r - s := by
  have h1 := q_self r
  have h2 := q_self s
  have k1 := cast_den r
  have k2 := cast_den s
  rw [Rat.intCast_sub, Rat.intCast_mul, Rat.intCast_mul, Rat.intCast_mul]
  grind
theorem q_mul (r s : Rat) : ((r.num * s.num : Int) : Rat) / (((r.den : Int) * (s.den : Int) : Int) : Rat) = r * s := by
  have h1 := q_self r
  have h2 := q_self s
  have k1 := cast_den r
  have k2 := cast_den s
  rw [Rat.intCast_mul, Rat.intCast_mul]
  grind
theorem num_ne {s : Rat} (h : s ≠ 0) : s.num ≠ 0 := fun z => h (Rat.num_eq_zero.mp z)
theorem q_div {r s : Rat} (h : s ≠ 0) : ((r.num * (s.den : Int) : Int) : Rat) / (((r.den : Int) * s.num : Int) : Rat) = r / s := by
  have h1 := q_self r
  have h2 := q_self s
  have k1 := cast_den r
  have k2 := cast_den s
  have k3 := K02.cast_ne (num_ne h)
  rw [Rat.intCast_mul, Rat.intCast_mul]
  grind
theorem q_neg (r : Rat) : ((-r.num : Int) : Rat) / (((r.den : Nat) : Int) : Rat) = -r := by
  have h1 := q_self r
  have k1 := cast_den r
  rw [Rat.intCast_neg]
  grind
/-- which one is less, in integers -/
theorem cr_lt (r s : Rat) : decide (r.num * (s.den : Int) - s.num * (r.den : Int) < 0) = decide (r < s) := decide_eq_decide.mpr (by rw [Rat.lt_iff]; omega)
theorem cr_le (r s : Rat) : decide (r.num * (s.den : Int) - s.num * (r.den : Int) ≤ 0) = decide (r ≤ s) := decide_eq_decide.mpr (by rw [Rat.le_iff]; omega)
theorem cr_eq (r s : Rat) : decide (r.num * (s.den : Int) - s.num * (r.den : Int) = 0) = decide (r = s) := decide_eq_decide.mpr (by rw [Rat.eq_iff_mul_eq_mul]; omega)
theorem ml_lt (r s : Rat) : decide (r.num * (s.den : Int) < s.num * (r.den : Int)) = decide (r < s) := decide_eq_decide.mpr (by rw [Rat.lt_iff])
end L3

set_option Elab.async false
set_option linter.all false
set_option maxRecDepth 100000
set_option maxHeartbeats 1000000
/-! data without truth values: equal exactly if they are the same tree -/
namespace L3
open PySem L2
mutual
def plD : D → Nat → Prop
  | .int _, _ => True
  | .non, _ => True
  | .str s, _ => PyData.strOk s = true
  | .tup ds, n => ∃ m, n = m + 1 ∧ plDs ds m
  | .lst ds, n => ∃ m, n = m + 1 ∧ plDs ds m
  | _, _ => False
def plDs : List D → Nat → Prop
  | [], _ => True
  | d :: ds, n => plD d n ∧ plDs ds n
end
mutual
theorem pl_ok : ∀ {d : D} {n : Nat}, plD d n → ∃ p, toP d = some p ∧ p.canLay0 = true ∧ p.depth ≤ n
  | .int i, n, _ => ⟨_, rfl, rfl, Nat.zero_le _⟩
  | .non, n, _ => ⟨_, rfl, rfl, Nat.zero_le _⟩
  | .str s, n, h => ⟨_, rfl, h, Nat.zero_le _⟩
  | .tup ds, n, h => by
    obtain ⟨m, rfl, h⟩ := h
    obtain ⟨ps, e, c, dp⟩ := pls_ok h
    refine ⟨.tuple ps, by rw [toP, e]; rfl, c, ?_⟩
    show PyData.depthAll ps + 1 ≤ m + 1
    omega
  | .lst ds, n, h => by
    obtain ⟨m, rfl, h⟩ := h
    obtain ⟨ps, e, c, dp⟩ := pls_ok h
    refine ⟨.list ps, by rw [toP, e]; rfl, c, ?_⟩
    show PyData.depthAll ps + 1 ≤ m + 1
    omega
  | .bl _, _, h => h.elim
  | .ty _, _, h => h.elim
  | .adr _, _, h => h.elim
  | .obj _ _ _, _, h => h.elim
  | .dk _ _, _, h => h.elim
theorem pls_ok : ∀ {ds : List D} {n : Nat}, plDs ds n → ∃ ps, toPs ds = some ps ∧ PyData.canLayAll0 ps = true ∧ PyData.depthAll ps ≤ n
  | [], n, _ => ⟨[], rfl, rfl, Nat.zero_le _⟩
  | d :: ds, n, h => by
    obtain ⟨p, e1, c1, d1⟩ := pl_ok h.1
    obtain ⟨ps, e2, c2, d2⟩ := pls_ok h.2
    refine ⟨p :: ps, by rw [toPs, e1, e2], ?_, ?_⟩
    · show (p.canLay0 && PyData.canLayAll0 ps) = true
      rw [c1, c2]; rfl
    · show max p.depth (PyData.depthAll ps) ≤ n
      omega
end
theorem pl_shaped {d : D} {n : Nat} (h : plD d n) (hn : n ≤ 64) : ∃ p, toP d = some p ∧ SeqAt.shaped p = true := by
  obtain ⟨p, e, c, dp⟩ := pl_ok h
  refine ⟨p, e, ?_⟩
  show (p.canLay0 && decide (p.depth ≤ 64)) = true
  rw [c, decide_eq_true (by omega)]; rfl
mutual
theorem eqv_same : ∀ {d e : D} {n m : Nat} {p q : PyData}, plD d n → plD e m → toP d = some p → toP e = some q → (PyData.eqv p q = true ↔ d = e)
  | .int i, e, n, m, p, q, h, h', e1, e2 => by
    cases e1
    cases e with
    | int j => cases e2; simp [PyData.eqv]
    | non => cases e2; simp [PyData.eqv]
    | str s => cases e2; simp [PyData.eqv]
    | tup es => cases z : toPs es with
      | none => rw [toP, z] at e2; cases e2
      | some ps => rw [toP, z] at e2; cases e2; simp [PyData.eqv]
    | lst es => cases z : toPs es with
      | none => rw [toP, z] at e2; cases e2
      | some ps => rw [toP, z] at e2; cases e2; simp [PyData.eqv]
    | _ => exact h'.elim
  | .non, e, n, m, p, q, h, h', e1, e2 => by
    cases e1
    cases e with
    | int j => cases e2; simp [PyData.eqv]
    | non => cases e2; simp [PyData.eqv]
    | str s => cases e2; simp [PyData.eqv]
    | tup es => cases z : toPs es with
      | none => rw [toP, z] at e2; cases e2
      | some ps => rw [toP, z] at e2; cases e2; simp [PyData.eqv]
    | lst es => cases z : toPs es with
      | none => rw [toP, z] at e2; cases e2
      | some ps => rw [toP, z] at e2; cases e2; simp [PyData.eqv]
    | _ => exact h'.elim
  | .str s, e, n, m, p, q, h, h', e1, e2 => by
    cases e1
    cases e with
    | int j => cases e2; simp [PyData.eqv]
    | non => cases e2; simp [PyData.eqv]
    | str s => cases e2; simp [PyData.eqv]
    | tup es => cases z : toPs es with
      | none => rw [toP, z] at e2; cases e2
      | some ps => rw [toP, z] at e2; cases e2; simp [PyData.eqv]
    | lst es => cases z : toPs es with
      | none => rw [toP, z] at e2; cases e2
      | some ps => rw [toP, z] at e2; cases e2; simp [PyData.eqv]
    | _ => exact h'.elim
  | .tup ds, e, n, m, p, q, h, h', e1, e2 => by
    obtain ⟨n1, rfl, h⟩ := h
    obtain ⟨ps, ee, _, _⟩ := pls_ok h
    rw [toP, ee] at e1
    cases e1
    cases e with
    | int j => cases e2; simp [PyData.eqv]
    | non => cases e2; simp [PyData.eqv]
    | str s => cases e2; simp [PyData.eqv]
    | tup es =>
      obtain ⟨m1, rfl, h'⟩ := h'
      obtain ⟨qs, ee', _, _⟩ := pls_ok h'
      rw [toP, ee'] at e2
      cases e2
      have := eqvs_same h h' ee ee'
      simpa [PyData.eqv] using this
    | lst es => cases z : toPs es with
      | none => rw [toP, z] at e2; cases e2
      | some ps => rw [toP, z] at e2; cases e2; simp [PyData.eqv]
    | _ => exact h'.elim
  | .lst ds, e, n, m, p, q, h, h', e1, e2 => by
    obtain ⟨n1, rfl, h⟩ := h
    obtain ⟨ps, ee, _, _⟩ := pls_ok h
    rw [toP, ee] at e1
    cases e1
    cases e with
    | int j => cases e2; simp [PyData.eqv]
    | non => cases e2; simp [PyData.eqv]
    | str s => cases e2; simp [PyData.eqv]
    | lst es =>
      obtain ⟨m1, rfl, h'⟩ := h'
      obtain ⟨qs, ee', _, _⟩ := pls_ok h'
      rw [toP, ee'] at e2
      cases e2
      have := eqvs_same h h' ee ee'
      simpa [PyData.eqv] using this
    | tup es => cases z : toPs es with
      | none => rw [toP, z] at e2; cases e2
      | some ps => rw [toP, z] at e2; cases e2; simp [PyData.eqv]
    | _ => exact h'.elim
  | .bl _, _, _, _, _, _, h, _, _, _ => h.elim
  | .ty _, _, _, _, _, _, h, _, _, _ => h.elim
  | .adr _, _, _, _, _, _, h, _, _, _ => h.elim
  | .obj _ _ _, _, _, _, _, _, h, _, _, _ => h.elim
  | .dk _ _, _, _, _, _, _, h, _, _, _ => h.elim
theorem eqvs_same : ∀ {ds es : List D} {n m : Nat} {ps qs : List PyData}, plDs ds n → plDs es m → toPs ds = some ps → toPs es = some qs → (PyData.eqvAll ps qs = true ↔ ds = es)
  | [], es, n, m, ps, qs, h, h', e1, e2 => by
    cases e1
    cases es with
    | nil => cases e2; simp [PyData.eqvAll]
    | cons e es =>
      obtain ⟨q, f1, _, _⟩ := pl_ok h'.1
      obtain ⟨qs', f2, _, _⟩ := pls_ok h'.2
      rw [toPs, f1, f2] at e2
      cases e2
      simp [PyData.eqvAll]
  | d :: ds, es, n, m, ps, qs, h, h', e1, e2 => by
    obtain ⟨p, g1, _, _⟩ := pl_ok h.1
    obtain ⟨ps', g2, _, _⟩ := pls_ok h.2
    rw [toPs, g1, g2] at e1
    cases e1
    cases es with
    | nil => cases e2; simp [PyData.eqvAll]
    | cons e es =>
      obtain ⟨q, f1, _, _⟩ := pl_ok h'.1
      obtain ⟨qs', f2, _, _⟩ := pls_ok h'.2
      rw [toPs, f1, f2] at e2
      cases e2
      have a1 := eqv_same h.1 h'.1 g1 f1
      have a2 := eqvs_same h.2 h'.2 g2 f2
      simp only [PyData.eqvAll, Bool.and_eq_true, List.cons.injEq]
      rw [a1, a2]
end
section
variable {P : D → Prop} {d e : D} {n m : Nat} {p : Prop} [Decidable p]
theorem eqv_dec {a b : PyData} (h : plD d n) (h' : plD e m) (e1 : toP d = some a) (e2 : toP e = some b) (hp : d = e ↔ p) : PyData.eqv a b = decide p := by
  have := eqv_same h h' e1 e2
  by_cases z : p
  · rw [decide_eq_true z]; exact this.mpr (hp.mpr z)
  · rw [decide_eq_false z]
    cases y : PyData.eqv a b with
    | false => rfl
    | true => exact absurd (hp.mp (this.mp y)) z
theorem u_eqX (h : plD d n) (h' : plD e m) (hn : n ≤ 64) (hm : m ≤ 64) (hp : d = e ↔ p) (q : P (.bl (decide p))) : oEqD d e P := by
  obtain ⟨a, e1, s1⟩ := pl_shaped h hn
  obtain ⟨b, e2, s2⟩ := pl_shaped h' hm
  exact ⟨a, b, e1, e2, s1, s2, by rw [eqv_dec h h' e1 e2 hp]; exact q⟩
theorem u_neX (h : plD d n) (h' : plD e m) (hn : n ≤ 64) (hm : m ≤ 64) (hp : d = e ↔ p) (q : P (.bl (!decide p))) : oNeD d e P := by
  obtain ⟨a, e1, s1⟩ := pl_shaped h hn
  obtain ⟨b, e2, s2⟩ := pl_shaped h' hm
  exact ⟨a, b, e1, e2, s1, s2, by rw [eqv_dec h h' e1 e2 hp]; exact q⟩
theorem pls_mem {ds : List D} {n : Nat} (h : ∀ d ∈ ds, plD d n) : plDs ds n := by
  induction ds with
  | nil => trivial
  | cons d ds ih => exact ⟨h d List.mem_cons_self, ih fun x hx => h x (List.mem_cons_of_mem _ hx)⟩
theorem any_same {n m : Nat} {d : D} {a : PyData} (h : plD d n) (e1 : toP d = some a) : ∀ {ds : List D} {qs : List PyData}, plDs ds m → toPs ds = some qs → ((qs.any fun q => PyData.eqv q a) = true ↔ d ∈ ds)
  | [], qs, _, e => by cases e; simp
  | x :: ds, qs, hx, e => by
    obtain ⟨p1, f1, _, _⟩ := pl_ok hx.1
    obtain ⟨ps, f2, _, _⟩ := pls_ok hx.2
    rw [toPs, f1, f2] at e
    cases e
    rw [List.any_cons, Bool.or_eq_true, any_same h e1 hx.2 f2, eqv_same hx.1 h f1 e1, List.mem_cons]
    constructor
    · rintro (z | z)
      · exact .inl z.symm
      · exact .inr z
    · rintro (z | z)
      · exact .inl z.symm
      · exact .inr z
theorem shaped_all : ∀ {ds : List D} {n : Nat} {qs : List PyData}, plDs ds n → n ≤ 64 → toPs ds = some qs → ∀ q ∈ qs, SeqAt.shaped q = true
  | [], n, qs, _, _, e => by cases e; intro q hq; cases hq
  | x :: ds, n, qs, h, hn, e => by
    obtain ⟨p1, f1, s1⟩ := pl_shaped h.1 hn
    obtain ⟨ps, f2, _, _⟩ := pls_ok h.2
    rw [toPs, f1, f2] at e
    cases e
    intro q hq
    rcases List.mem_cons.mp hq with z | z
    · subst z; exact s1
    · exact shaped_all h.2 hn f2 q z
theorem u_inX {neg : Bool} {xs : List D} (hx : itemsOf e = some xs) (h : plD d n) (h' : plDs xs m) (hn : n ≤ 64) (hm : m ≤ 64) (hp : d ∈ xs ↔ p) (q : P (.bl (if neg then !decide p else decide p))) : oInD neg d e P := by
  obtain ⟨a, e1, s1⟩ := pl_shaped h hn
  obtain ⟨ps, e2, _, _⟩ := pls_ok h'
  refine ⟨a, xs, ps, e1, hx, e2, s1, shaped_all h' hm e2, ?_⟩
  have y := any_same h e1 h' e2
  have : (ps.any fun q => PyData.eqv q a) = decide p := by
    by_cases z : p
    · rw [decide_eq_true z]; exact y.mpr (hp.mpr z)
    · rw [decide_eq_false z]
      cases w : (ps.any fun q => PyData.eqv q a) with
      | false => rfl
      | true => exact absurd (hp.mp (y.mp w)) z
  rw [this]
  cases neg <;> exact q
end
theorem pl_pr (r : Rat) : plD (pr r) 1 := ⟨0, rfl, trivial, trivial, trivial⟩
theorem pr_inj {r s : Rat} : pr r = pr s ↔ r = s := by
  constructor
  · intro h
    have h1 : [D.int r.num, D.int (r.den : Int)] = [D.int s.num, D.int (s.den : Int)] := by
      injection h
    have h2 : r.num = s.num := by
      have := (List.cons.inj h1).1; injection this
    have h3 : (r.den : Int) = (s.den : Int) := by
      have := (List.cons.inj (List.cons.inj h1).2).1; injection this
    exact Rat.ext h2 (by exact_mod_cast h3)
  · intro h; rw [h]
theorem raC_inj {C : Addr} {r s : Rat} : raC C r = raC C s ↔ r = s := by
  constructor
  · intro h
    have h1 : [D.int r.num, D.int (r.den : Int)] = [D.int s.num, D.int (s.den : Int)] := by
      injection h
    have h2 : r.num = s.num := by
      have := (List.cons.inj h1).1; injection this
    have h3 : (r.den : Int) = (s.den : Int) := by
      have := (List.cons.inj (List.cons.inj h1).2).1; injection this
    exact Rat.ext h2 (by exact_mod_cast h3)
  · intro h; rw [h]
theorem map_inj {α β : Type} {f : α → β} (hf : ∀ a b, f a = f b → a = b) : ∀ {xs ys : List α}, xs.map f = ys.map f → xs = ys
  | [], [], _ => rfl
  | [], _ :: _, h => by cases h
  | _ :: _, [], h => by cases h
  | x :: xs, y :: ys, h => by
    rw [List.map_cons, List.map_cons] at h
    have := List.cons.inj h
    rw [hf _ _ this.1, map_inj hf this.2]
end L3

set_option Elab.async false
set_option linter.all false
set_option maxRecDepth 100000
set_option maxHeartbeats 1000000
/-! walks over lists of trees; targets -/
namespace L3
open PySem L2
section
variable {Q : List S → Prop} {δ δ0 : List S} {g : Wg} {t : Wb} {u : Wt} {vs : List Nat} {α : Type} {f : α → D}
theorem r_gName {i : Nat} {d : D} (q : Q (δ.set i (.v d))) : wgName i d δ Q := q
theorem r_gTup {n : Nat} {w : Wgs} {ds : List D} (h : ds.length = n) (q : w ds δ Q) : wgTup n w (.tup ds) δ Q := ⟨ds, rfl, h, q⟩
theorem r_gCons {u : Wg} {w : Wgs} {d : D} {r : List D} (q : u d δ fun δ1 => w r δ1 Q) : wgCons u w (d :: r) δ Q := ⟨d, r, rfl, q⟩
theorem r_gNil (q : Q δ) : wgNil [] δ Q := ⟨rfl, q⟩
theorem r_gFld {i : Nat} {C : Addr} {m : Str} {d : D} (h : ∃ k ns xs, δ[i]? = some (.oo k C ns xs) ∧ ns.length < 1000 ∧ Q (δ.set i (.oo k C (putD m d ns xs).1 (putD m d ns xs).2))) : wgFld i C m d δ Q := h
theorem r_asg {E : DE} {uu : Wt} {w : Wg} (h : uu δ (fun d δ1 => w d δ1 E.nx) E.xx) : wAsg uu w δ E := h
theorem r_itV {i : Nat} {d : D} {xs : List D} {QI : List D → List S → Prop} {Y : Er → List S → Prop} (h1 : δ[i]? = some (.v d)) (h2 : itemsOf d = some xs) (q : QI xs δ) : wItV i δ QI Y := ⟨d, xs, h1, h2, q⟩
theorem r_itL {w : Wt} {QI : List D → List S → Prop} {Y : Er → List S → Prop} (h : w δ (fun d δ1 => ∃ xs, d = .lst xs ∧ QI xs δ1) Y) : wItL w δ QI Y := h
theorem r_itT {w : Wt} {QI : List D → List S → Prop} {Y : Er → List S → Prop} (h : w δ (fun d δ1 => ∃ xs, d = .tup xs ∧ QI xs δ1) Y) : wItT w δ QI Y := h
theorem r_zip {w : Wa} {QI : List D → List S → Prop} {Y : Er → List S → Prop} (h : w δ (fun as δ1 => ∃ xs ys, trees as = some [.lst xs, .lst ys] ∧ QI (List.zipWith (fun x y => D.tup [x, y]) xs ys) δ1) Y) : wZip w δ QI Y := h
theorem r_lc {wi : Wi} {QI : List D → List S → Prop} {Y : Er → List S → Prop} (h : wi δ (fun items δ1 => (∀ v ∈ vs, ∀ s : S, δ1[v]? = some s → s.owned = false) ∧ lcD g t u vs δ1 QI items [] (wipeS δ1 vs)) Y) : wLc wi g t u vs δ QI Y := h
theorem r_lcO {i : Nat} {xs : List D} {QI : List D → List S → Prop} {Y : Er → List S → Prop} (h1 : δ[i]? = some (.ol false xs)) (h2 : (∀ v ∈ vs, ∀ s : S, (δ.set i .no)[v]? = some s → s.owned = false) ∧ lcD g t u vs (δ.set i .no) (fun acc δ' => QI acc (δ'.set i (.ol false xs))) xs [] (wipeS (δ.set i .no) vs)) : wLcO i g t u vs δ QI Y := ⟨xs, h1, h2⟩
def unown (δ : List S) (vs : List Nat) : Bool := vs.all fun v => match δ[v]? with | some s => !s.owned | none => true
theorem r_unO {P : Prop} (h : unown δ vs = true) (q0 : P) : (∀ v ∈ vs, ∀ s : S, δ[v]? = some s → s.owned = false) ∧ P := by
  refine ⟨fun v hv s hs => ?_, q0⟩
  have z : (match δ[v]? with | some s => !s.owned | none => true) = true := List.all_eq_true.mp h v hv
  rw [hs] at z
  have z : (!s.owned) = true := z
  cases y : s.owned with
  | false => rfl
  | true => rw [y] at z; cases z
theorem r_setF {E : DE} {i : Nat} {l : Wl} (h : l δ (fun xs δ1 => E.nx (δ1.set i (.v (.lst xs)))) E.xx) : wSetF i l δ E := h
theorem r_truO {i : Nat} {k : Bool} {xs : List D} {QB : Bool → List S → Prop} {Y : Er → List S → Prop} (h1 : δ[i]? = some (.ol k xs)) (q : QB (!xs.isEmpty) δ) : wTruO i δ QB Y := ⟨k, xs, h1, q⟩
theorem r_lenO {i : Nat} {k : Bool} {xs : List D} {QD : D → List S → Prop} {Y : Er → List S → Prop} (h1 : δ[i]? = some (.ol k xs)) (q : QD (.int xs.length) δ) : wLenO i δ QD Y := ⟨k, xs, h1, q⟩
theorem r_varF {i : Nat} {xs : List D} {QD : D → List S → Prop} {Y : Er → List S → Prop} (h1 : δ[i]? = some (.ol false xs)) (q : QD (.lst xs) (δ.set i (.v (.lst xs)))) : wVarF i δ QD Y := ⟨xs, h1, q⟩
theorem r_retO {i : Nat} {xs : List D} {E : DE} (h1 : δ[i]? = some (.ol false xs)) (q : E.rt (.l xs) δ) : wRetO i δ E := ⟨xs, h1, q⟩
theorem r_app {i : Nat} {uu : Wa} {k : Bool} {xs : List D} {QD : D → List S → Prop} {Y : Er → List S → Prop} (h1 : δ[i]? = some (.ol k xs)) (h : uu δ (fun as δ1 => ∃ d k xs, trees as = some [d] ∧ δ1[i]? = some (.ol k xs) ∧ xs.length < 1000 ∧ QD .non (δ1.set i (.ol k (xs ++ [d])))) Y) : wApp i uu δ QD Y := ⟨⟨k, xs, h1⟩, h⟩
theorem r_ins {i : Nat} {uu : Wa} {k : Bool} {xs : List D} {QD : D → List S → Prop} {Y : Er → List S → Prop} (h1 : δ[i]? = some (.ol k xs)) (h : uu δ (fun as δ1 => ∃ (j : Int) (d : D) (k : Bool) (xs : List D), trees as = some [.int j, d] ∧ 0 ≤ j ∧ j ≤ 1000 ∧ δ1[i]? = some (.ol k xs) ∧ xs.length < 1000 ∧ QD .non (δ1.set i (.ol k (xs.take j.toNat ++ [d] ++ xs.drop j.toNat)))) Y) : wIns i uu δ QD Y := ⟨⟨k, xs, h1⟩, h⟩
theorem r_rev {w : Wt} {QD : D → List S → Prop} {Y : Er → List S → Prop} (h : w δ (fun d δ1 => ∃ xs, d = .lst xs ∧ QD (.lst xs.reverse) δ1) Y) : wRev w δ QD Y := h
theorem r_slL {w : Wt} {l u : Wo} {QD : D → List S → Prop} {Y : Er → List S → Prop} (h : w δ (fun d δ1 => ∃ xs, d = .lst xs ∧ l δ1 (fun lo δ2 => u δ2 (fun hi δ3 => QD (.lst (cutD xs lo hi)) δ3) Y) Y) Y) : wSlL w l u δ QD Y := h
theorem r_oNone {QO : Option Int → List S → Prop} {Y : Er → List S → Prop} (h : QO none δ) : woNone δ QO Y := h
theorem r_oSome {w : Wt} {QO : Option Int → List S → Prop} {Y : Er → List S → Prop} (h : w δ (fun d δ1 => ∃ i, d = .int i ∧ QO (some i) δ1) Y) : woSome w δ QO Y := h
theorem r_ifT {tt a b : Wb} {QB : Bool → List S → Prop} {Y : Er → List S → Prop} (h : tt δ (fun c δ1 => if c = true then a δ1 QB Y else b δ1 QB Y) Y) : wIfT tt a b δ QB Y := h
theorem r_cat {xs ys : List D} {P : D → Prop} (hl : xs.length + ys.length ≤ 1000) (q : P (.lst (xs ++ ys))) : oCatL (.lst xs) (.lst ys) P := ⟨xs, ys, rfl, rfl, hl, q⟩
theorem r_tuple {d : D} {xs : List D} {P : D → Prop} (h : itemsOf d = some xs) (q : P (.tup xs)) : zTuple [d] P := ⟨d, xs, rfl, h, q⟩
theorem r_list {d : D} {xs : List D} {P : D → Prop} (h : itemsOf d = some xs) (q : P (.lst xs)) : zList [d] P := ⟨d, xs, rfl, h, q⟩
theorem r_fldE {C : Addr} {ns : List Str} {xs : List D} {z d : D} {m : Str} {P : D → Prop} (h1 : d = .obj C ns xs) (h2 : (ns.zip xs).lookup m = some z) (q : P z) : ∃ ns xs z, d = .obj C ns xs ∧ (ns.zip xs).lookup m = some z ∧ P z := ⟨ns, xs, z, h1, h2, q⟩
theorem r_appE {i : Nat} {k : Bool} {xs : List D} {d : D} {as : List A} {P : D → Bool → List D → Prop} (h1 : trees as = some [d]) (h2 : δ[i]? = some (.ol k xs)) (q : P d k xs) (hl : xs.length < 1000) : ∃ d k xs, trees as = some [d] ∧ δ[i]? = some (.ol k xs) ∧ xs.length < 1000 ∧ P d k xs := ⟨d, k, xs, h1, h2, hl, q⟩
theorem r_insE {i : Nat} {k : Bool} {xs : List D} {d : D} {j : Int} {as : List A} {P : Int → D → Bool → List D → Prop} (h1 : trees as = some [.int j, d]) (h2 : δ[i]? = some (.ol k xs)) (q : P j d k xs) (j0 : 0 ≤ j) (j1 : j ≤ 1000) (hl : xs.length < 1000) :
    ∃ (j : Int) (d : D) (k : Bool) (xs : List D), trees as = some [.int j, d] ∧ 0 ≤ j ∧ j ≤ 1000 ∧ δ[i]? = some (.ol k xs) ∧ xs.length < 1000 ∧ P j d k xs := ⟨j, d, k, xs, h1, j0, j1, h2, hl, q⟩
theorem r_ixE {i : Nat} {k : Bool} {xs : List D} {e z : D} {j : Int} {P : Bool → List D → Int → D → Prop} (h1 : e = .int j) (h2 : δ[i]? = some (.ol k xs)) (h3 : atI xs j = some z) (q : P k xs j z) : ∃ k xs j z, e = .int j ∧ δ[i]? = some (.ol k xs) ∧ atI xs j = some z ∧ P k xs j z := ⟨k, xs, j, z, h1, h2, h3, q⟩
theorem r_stFE {i : Nat} {C : Addr} {k : Bool} {ns : List Str} {xs : List D} {P : Bool → List Str → List D → Prop} (h1 : δ[i]? = some (.oo k C ns xs)) (h2 : ns.length < 1000) (q : P k ns xs) : ∃ k ns xs, δ[i]? = some (.oo k C ns xs) ∧ ns.length < 1000 ∧ P k ns xs := ⟨k, ns, xs, h1, h2, q⟩
theorem r_gFldE {i : Nat} {C : Addr} {m : Str} {k : Bool} {ns : List Str} {xs : List D} {d : D} (h1 : δ[i]? = some (.oo k C ns xs)) (h2 : ns.length < 1000) (q : Q (δ.set i (.oo k C (putD m d ns xs).1 (putD m d ns xs).2))) : wgFld i C m d δ Q := ⟨k, ns, xs, h1, h2, q⟩
theorem r_pop {i : Nat} {k : Bool} {ys : List D} {d : D} {QD : D → List S → Prop} {Y : Er → List S → Prop} (h1 : δ[i]? = some (.ol k (ys ++ [d]))) (q : QD d (δ.set i (.ol k ys))) : wPop i δ QD Y := ⟨k, ys, d, h1, q⟩
/-- a comprehension whose turns leave all slots but its own as they were -/
theorem lc_pure {out : α → D} {sel : α → Bool} {QL : List D → List S → Prop} : ∀ (xs : List α) (acc : List D)
    (turn : ∀ x ∈ xs, ∀ (A : D → List S → Prop) (Bq : List S → Prop), (sel x = true → ∀ δ3, δ3.map S.owned = δ.map S.owned → wipeS δ3 vs = δ → A (out x) δ3) → (sel x = false → ∀ δ3, δ3.map S.owned = δ.map S.owned → wipeS δ3 vs = δ → Bq δ3) →
      g (f x) δ fun δ1 => t δ1 (fun c δ2 => if c = true then u δ2 A (fun _ _ => False) else Bq δ2) (fun _ _ => False))
    (len : acc.length + xs.length ≤ 1000) (q : QL (acc ++ (xs.filter sel).map out) (backS δ0 vs δ)), lcD g t u vs δ0 QL (xs.map f) acc δ
  | [], acc, _, _, q => by
    have q : QL (acc ++ []) (backS δ0 vs δ) := q
    rw [List.append_nil] at q; exact q
  | x :: xs, acc, turn, len, q => by
    rw [List.map_cons, lcD]
    rw [List.length_cons] at len
    refine turn x List.mem_cons_self _ _ (fun hs δ3 h1 h2 => ⟨by omega, h1, ?_⟩) (fun hs δ3 h1 h2 => ⟨h1, ?_⟩)
    · rw [h2]
      refine lc_pure xs _ (fun y hy => turn y (List.mem_cons_of_mem _ hy)) (by rw [List.length_append, List.length_singleton]; omega) ?_
      rw [List.filter_cons_of_pos hs, List.map_cons] at q
      rw [List.append_assoc]; exact q
    · rw [h2]
      refine lc_pure xs _ (fun y hy => turn y (List.mem_cons_of_mem _ hy)) (by omega) ?_
      rw [List.filter_cons_of_neg (by rw [hs]; exact Bool.false_ne_true)] at q
      exact q
theorem lc_all {out : α → D} {QL : List D → List S → Prop} (xs : List α)
    (turn : ∀ x ∈ xs, ∀ (A : D → List S → Prop), (∀ δ3, δ3.map S.owned = δ.map S.owned → wipeS δ3 vs = δ → A (out x) δ3) → g (f x) δ fun δ1 => u δ1 A (fun _ _ => False))
    (len : xs.length ≤ 1000) (q : QL (xs.map out) (backS δ0 vs δ)) : lcD g (fun δ Q _ => Q true δ) u vs δ0 QL (xs.map f) [] δ := by
  refine lc_pure (sel := fun _ => true) (out := out) xs [] (fun x hx A Bq hA hB => ?_) (by rw [List.length_nil]; omega) ?_
  · have := turn x hx A (hA rfl)
    simpa only [if_true] using this
  · rw [List.filter_eq_self.mpr (fun _ _ => rfl)]; exact q
/-- a for by an invariant over the items that are done -/
theorem loop_inv {E : DE} {w : Ws} (I : List α → List S → Prop) (xs : List α)
    (step : ∀ pre x post δ (N : List S → Prop), xs = pre ++ x :: post → (∀ δ', I (pre ++ [x]) δ' → N δ') → I pre δ → g (f x) δ fun δ1 => w δ1 { E with nx := N, ct := N, bk := E.nx })
    (done : ∀ δ, I xs δ → E.nx δ) : ∀ δ, I [] δ → loopD g w E (xs.map f) δ := by
  have key : ∀ (ys pre : List α) (δ : List S), xs = pre ++ ys → I pre δ → loopD g w E (ys.map f) δ := by
    intro ys
    induction ys with
    | nil =>
      intro pre δ e h
      rw [List.append_nil] at e
      subst e
      exact done δ h
    | cons y ys ih =>
      intro pre δ e h
      rw [List.map_cons, loopD]
      exact step pre y ys δ _ e (fun δ' h' => ih _ _ (by rw [e, List.append_assoc]; rfl) h') h
  exact fun δ h => key xs [] δ rfl h
end
/-! ### sums, ends in their order -/
def sm (rs : List Rat) : Rat := rs.foldl (· + ·) 0
theorem foldl_sm (rs : List Rat) : ∀ a : Rat, rs.foldl (· + ·) a = a + sm rs := by
  induction rs with
  | nil => intro a; show a = a + 0; grind
  | cons r rs ih =>
    intro a
    show rs.foldl (· + ·) (a + r) = a + rs.foldl (· + ·) (0 + r)
    rw [ih, ih (0 + r)]; grind
theorem sm_nil : sm [] = 0 := rfl
theorem sm_cons (r : Rat) (rs : List Rat) : sm (r :: rs) = r + sm rs := by
  show rs.foldl (· + ·) (0 + r) = _
  rw [foldl_sm]; grind
theorem sm_append (xs ys : List Rat) : sm (xs ++ ys) = sm xs + sm ys := by
  induction xs with
  | nil => rw [List.nil_append, sm_nil]; grind
  | cons x xs ih => rw [List.cons_append, sm_cons, sm_cons, ih]; grind
theorem sm_sz {k : Nat} : ∀ (rs : List Rat), (∀ r ∈ rs, Sz k r) → Sz (rs.length * (k + 1) + 1) (sm rs)
  | [], _ => by rw [sm_nil]; exact sz_zero.mono (by omega)
  | r :: rs, h => by
    have h1 := h r List.mem_cons_self
    have h2 := sm_sz rs fun x hx => h x (List.mem_cons_of_mem _ hx)
    rw [sm_cons]
    exact (@sz_add _ _ _ _ h1 h2).mono (by rw [List.length_cons, Nat.succ_mul]; omega)
/-- put among the ascending ones -/
def ins (xs : List Rat) (r : Rat) : List Rat := if r ∈ xs then xs else xs.filter (fun y => decide (y < r)) ++ [r] ++ xs.filter (fun y => decide (r < y))
def asc (rs : List Rat) : List Rat := rs.foldl ins []
abbrev Asc (xs : List Rat) : Prop := xs.Pairwise (· < ·)
theorem lt_tr {a b c : Rat} (h : a < b) (h' : b < c) : a < c := by grind
theorem ins_mem {xs : List Rat} {r y : Rat} : y ∈ ins xs r ↔ y = r ∨ y ∈ xs := by
  unfold ins
  split
  · rename_i h
    constructor
    · exact .inr
    · rintro (rfl | z)
      · exact h
      · exact z
  · rename_i h
    simp only [List.mem_append, List.mem_filter, List.mem_singleton, decide_eq_true_eq]
    constructor
    · rintro ((⟨z, _⟩ | z) | ⟨z, _⟩)
      · exact .inr z
      · exact .inl z
      · exact .inr z
    · rintro (rfl | z)
      · exact .inl (.inr rfl)
      · by_cases e : y = r
        · exact .inl (.inr e)
        · by_cases e2 : y < r
          · exact .inl (.inl ⟨z, e2⟩)
          · exact .inr ⟨z, by grind⟩
theorem ins_asc {xs : List Rat} {r : Rat} (h : Asc xs) : Asc (ins xs r) := by
  unfold ins
  split
  · exact h
  · refine List.pairwise_append.mpr ⟨List.pairwise_append.mpr ⟨h.filter _, List.pairwise_singleton _ _, fun a ha b hb => ?_⟩, h.filter _, fun a ha b hb => ?_⟩
    · rw [List.mem_singleton] at hb
      rw [hb]
      exact of_decide_eq_true (List.mem_filter.mp ha).2
    · have hb' := of_decide_eq_true (List.mem_filter.mp hb).2
      rcases List.mem_append.mp ha with ha | ha
      · exact lt_tr (of_decide_eq_true (List.mem_filter.mp ha).2) hb'
      · rw [List.mem_singleton] at ha; rw [ha]; exact hb'
theorem foldl_ins_mem {rs : List Rat} : ∀ {xs : List Rat} {y : Rat}, y ∈ rs.foldl ins xs ↔ y ∈ rs ∨ y ∈ xs := by
  induction rs with
  | nil => intro xs y; simp
  | cons r rs ih =>
    intro xs y
    rw [List.foldl_cons, ih, ins_mem, List.mem_cons]
    constructor
    · rintro (z | z | z)
      · exact .inl (.inr z)
      · exact .inl (.inl z)
      · exact .inr z
    · rintro ((z | z) | z)
      · exact .inr (.inl z)
      · exact .inl z
      · exact .inr (.inr z)
theorem foldl_ins_asc {rs : List Rat} : ∀ {xs : List Rat}, Asc xs → Asc (rs.foldl ins xs) := by
  induction rs with
  | nil => intro xs h; exact h
  | cons r rs ih => intro xs h; exact ih (ins_asc h)
theorem asc_mem {rs : List Rat} {y : Rat} : y ∈ asc rs ↔ y ∈ rs := by
  unfold asc; rw [foldl_ins_mem]; simp
theorem asc_asc (rs : List Rat) : Asc (asc rs) := foldl_ins_asc List.Pairwise.nil
/-- ascending lists with the same members are the same -/
theorem asc_uniq : ∀ {xs ys : List Rat}, Asc xs → Asc ys → (∀ y, y ∈ xs ↔ y ∈ ys) → xs = ys
  | [], [], _, _, _ => rfl
  | [], y :: ys, _, _, h => by have := (h y).mpr List.mem_cons_self; cases this
  | x :: xs, [], _, _, h => by have := (h x).mp List.mem_cons_self; cases this
  | x :: xs, y :: ys, hx, hy, h => by
    have hx1 := List.pairwise_cons.mp hx
    have hy1 := List.pairwise_cons.mp hy
    have e : x = y := by
      have a1 := (h x).mp List.mem_cons_self
      have a2 := (h y).mpr List.mem_cons_self
      rcases List.mem_cons.mp a1 with z | z
      · exact z
      · rcases List.mem_cons.mp a2 with w | w
        · exact w.symm
        · have b1 := hy1.1 x z
          have b2 := hx1.1 y w
          grind
    subst e
    refine congrArg (x :: ·) (asc_uniq hx1.2 hy1.2 fun z => ?_)
    have hz := h z
    rw [List.mem_cons, List.mem_cons] at hz
    constructor
    · intro m
      rcases hz.mp (.inr m) with e | e
      · have := hx1.1 z m; grind
      · exact e
    · intro m
      rcases hz.mpr (.inr m) with e | e
      · have := hy1.1 z m; grind
      · exact e
/-- the place among ascending ones -/
theorem filter_take : ∀ {xs : List Rat} (r : Rat), Asc xs → xs.take (xs.filter (fun y => decide (y < r))).length = xs.filter (fun y => decide (y < r)) ∧ xs.drop (xs.filter (fun y => decide (y < r))).length = xs.filter (fun y => decide (r ≤ y))
  | [], r, _ => ⟨rfl, rfl⟩
  | x :: xs, r, h => by
    have h1 := List.pairwise_cons.mp h
    obtain ⟨a, b⟩ := filter_take r h1.2
    by_cases c : x < r
    · rw [List.filter_cons_of_pos (by simpa using c), List.filter_cons_of_neg (by simp; grind)]
      rw [List.length_cons, List.take_succ_cons, List.drop_succ_cons, a, b]
      exact ⟨rfl, rfl⟩
    · have e : xs.filter (fun y => decide (y < r)) = [] := by
        rw [List.filter_eq_nil_iff]
        intro y hy
        have := h1.1 y hy
        simp; grind
      have e2 : xs.filter (fun y => decide (r ≤ y)) = xs := by
        rw [List.filter_eq_self]
        intro y hy
        have := h1.1 y hy
        simp; grind
      rw [List.filter_cons_of_neg (by simpa using c), e, List.filter_cons_of_pos (by simp; grind), e2]
      exact ⟨rfl, rfl⟩
theorem ins_place {xs : List Rat} {r : Rat} (h : Asc xs) : ins xs r = (if ((xs.filter (fun y => decide (y < r))).length = xs.length ∨ xs[(xs.filter (fun y => decide (y < r))).length]? ≠ some r) then xs.take (xs.filter (fun y => decide (y < r))).length ++ [r] ++ xs.drop (xs.filter (fun y => decide (y < r))).length else xs) := by
  obtain ⟨a, b⟩ := filter_take r h
  have key : r ∈ xs ↔ ¬ ((xs.filter (fun y => decide (y < r))).length = xs.length ∨ xs[(xs.filter (fun y => decide (y < r))).length]? ≠ some r) := by
    have hd : xs[(xs.filter (fun y => decide (y < r))).length]? = (xs.filter (fun y => decide (r ≤ y)))[0]? := by
      rw [← b, List.getElem?_drop, Nat.add_zero]
    constructor
    · intro m
      have m2 : r ∈ xs.filter (fun y => decide (r ≤ y)) := List.mem_filter.mpr ⟨m, by simp⟩
      have hs : Asc (xs.filter (fun y => decide (r ≤ y))) := h.filter _
      have hx : (xs.filter (fun y => decide (r ≤ y)))[0]? = some r := by
        cases q : xs.filter (fun y => decide (r ≤ y)) with
        | nil => rw [q] at m2; cases m2
        | cons z zs =>
          rw [q] at m2 hs
          have hz : r ≤ z := by
            have : z ∈ xs.filter (fun y => decide (r ≤ y)) := by rw [q]; exact List.mem_cons_self
            exact of_decide_eq_true (List.mem_filter.mp this).2
          rcases List.mem_cons.mp m2 with w | w
          · rw [w]; rfl
          · have := (List.pairwise_cons.mp hs).1 r w
            grind
      rintro (z | z)
      · rw [z, List.getElem?_eq_none (Nat.le_refl _), hx] at hd
        cases hd
      · exact z (hd.trans hx)
    · intro n
      have n2 : xs[(xs.filter (fun y => decide (y < r))).length]? = some r := by
        cases q : decide (xs[(xs.filter (fun y => decide (y < r))).length]? = some r) with
        | true => exact of_decide_eq_true q
        | false => exact absurd (.inr (of_decide_eq_false q)) n
      exact List.mem_of_getElem? n2
  unfold ins
  by_cases m : r ∈ xs
  · rw [if_pos m, if_neg (key.mp m)]
  · rw [if_neg m, if_pos (by
      cases q : decide ((xs.filter (fun y => decide (y < r))).length = xs.length ∨ xs[(xs.filter (fun y => decide (y < r))).length]? ≠ some r) with
      | true => exact of_decide_eq_true q
      | false => exact absurd (key.mpr (of_decide_eq_false q)) m), a, b]
    congr 1
    apply List.filter_congr
    intro y hy
    rw [decide_eq_decide]
    constructor
    · intro z; grind
    · intro z
      have : y ≠ r := fun w => m (w ▸ hy)
      grind
abbrev T3 := Rat × Rat × Rat
def mn (r s : Rat) : Rat := if r < s then r else s
def mx (r s : Rat) : Rat := if r < s then s else r
instance sz_mn {j k : Nat} {r s : Rat} [h : Sz j r] [h' : Sz k s] : Sz (max j k) (mn r s) := by
  unfold mn; split
  · exact h.mono (by omega)
  · exact h'.mono (by omega)
instance sz_mx {j k : Nat} {r s : Rat} [h : Sz j r] [h' : Sz k s] : Sz (max j k) (mx r s) := by
  unfold mx; split
  · exact h'.mono (by omega)
  · exact h.mono (by omega)
theorem ins_len {xs : List Rat} {r : Rat} (h : Asc xs) : (ins xs r).length ≤ xs.length + 1 := by
  rw [ins_place h]
  split
  · have : (xs.filter (fun y => decide (y < r))).length ≤ xs.length := List.length_filter_le _ _
    simp only [List.length_append, List.length_take, List.length_drop, List.length_singleton]; omega
  · omega
theorem asc_len (rs : List Rat) : (asc rs).length ≤ rs.length := by
  have key : ∀ (rs xs : List Rat), Asc xs → (rs.foldl ins xs).length ≤ rs.length + xs.length := by
    intro rs
    induction rs with
    | nil => intro xs _; simp
    | cons r rs ih =>
      intro xs h
      have := ih (ins xs r) (ins_asc h)
      have := ins_len (r := r) h
      rw [List.foldl_cons, List.length_cons]; omega
  exact key rs [] List.Pairwise.nil
end L3
local macro_rules | `(tactic| walk_at "l4") => `(tactic| first
  | ((with_reducible apply L3.r_var); rfl) | with_reducible refine L3.r_c ?_ | with_reducible refine L3.r_op ?_ | with_reducible refine L3.r_un ?_ | with_reducible refine L3.r_tst ?_ | with_reducible refine L3.r_tru ?_ | with_reducible refine L3.r_andT ?_ | with_reducible refine L3.r_orT ?_ | with_reducible refine L3.r_notT ?_
  | with_reducible refine L3.r_and ?_ | with_reducible refine L3.r_or ?_ | with_reducible refine L3.r_not ?_ | with_reducible refine L3.r_if ?_
  | with_reducible refine L3.r_nil ?_ | with_reducible refine L3.r_cons ?_ | with_reducible refine L3.r_tup ?_ | with_reducible refine L3.r_lst ?_ | with_reducible refine L3.r_lstO ?_ | with_reducible refine L3.r_fz ?_ | with_reducible refine L3.r_call ?_ | with_reducible refine L3.r_callL ?_ | with_reducible refine L3.r_callW ?_
  | with_reducible refine L3.r_make ?_ | with_reducible refine L3.r_makeW ?_ | with_reducible refine L3.r_meth ?_ | with_reducible refine L3.r_methW ?_ | with_reducible refine L3.r_prop ?_ | with_reducible refine L3.r_fld ?_ | with_reducible refine L3.r_cb ?_
  | with_reducible refine L3.r_seq ?_ | with_reducible refine L3.r_nx ?_ | with_reducible refine L3.r_set ?_ | with_reducible refine L3.r_setL ?_ | with_reducible refine L3.r_expr ?_ | with_reducible refine L3.r_ret ?_ | with_reducible refine L3.r_retL ?_ | with_reducible refine L3.r_ifS ?_ | with_reducible refine L3.r_par ?_
  | with_reducible refine L3.r_stF ?_ | with_reducible refine L3.r_stO ?_ | with_reducible refine L3.r_for ?_ | with_reducible refine L3.r_rng1 ?_ | with_reducible refine L3.r_oIT ?_ | with_reducible refine L3.r_oIC ?_ ?_ | with_reducible refine L3.r_iteT ?_ | with_reducible refine L3.r_iteF ?_ | with_reducible refine L3.r_iteP ?_ | with_reducible refine L3.r_iteQ ?_ | with_reducible refine L3.r_eqI ?_
  | with_reducible refine L3.r_abs ?_ | with_reducible refine L3.r_int ?_ | with_reducible refine L3.r_max ?_ | with_reducible refine L3.r_min ?_ | with_reducible refine L3.r_gcd ?_ | with_reducible refine L3.r_raise0 ?_ | with_reducible refine L3.r_raise1 ?_
  | ((with_reducible apply L3.r_len); rfl) | ((with_reducible apply L3.r_ix); rfl; rfl; rfl) | ((with_reducible apply L3.r_fldO); rfl; rfl)
  | ((with_reducible refine L3.r_ixO (And.intro ?_ ?_)); exact ⟨_, rfl, rfl⟩) | ((with_reducible refine L3.r_callB (And.intro ?_ ?_)); exact ⟨_, rfl, rfl⟩)
  | ((with_reducible apply Exists.intro); (with_reducible apply And.intro); rfl)
  | ((with_reducible apply Exists.intro); (with_reducible apply Exists.intro); (with_reducible apply And.intro); rfl)
  | ((with_reducible refine And.intro ?_ ?_); first | rfl | decide | exact Nat.le_of_ble_eq_true rfl | exact ⟨_, rfl, rfl⟩)
  | (with_reducible simp only [List.set_cons_zero, List.set_cons_succ, List.replicate_succ, List.replicate_zero, List.cons_append, List.nil_append, List.append_nil, List.map_cons, List.map_nil, Bool.not_true, Bool.not_false, L3.rvD_d, L3.rvD_l, L3.flag_ol, L3.inp_ol, decide_true, decide_false])
  | with_reducible refine L3.r_gName ?_ | ((with_reducible refine L3.r_gTup ?_ ?_); rfl) | with_reducible refine L3.r_gCons ?_ | with_reducible refine L3.r_gNil ?_ | with_reducible refine L3.r_asg ?_ | ((with_reducible apply L3.r_gFldE); rfl; exact Nat.le_of_ble_eq_true rfl)
  | ((with_reducible apply L3.r_itV); rfl; rfl) | with_reducible refine L3.r_itL ?_ | with_reducible refine L3.r_itT ?_ | with_reducible refine L3.r_zip ?_ | with_reducible refine L3.r_lc ?_ | ((with_reducible apply L3.r_lcO); rfl) | ((with_reducible apply L3.r_unO); rfl)
  | with_reducible refine L3.r_setF ?_ | ((with_reducible apply L3.r_truO); rfl) | ((with_reducible apply L3.r_lenO); rfl) | ((with_reducible apply L3.r_varF); rfl) | ((with_reducible apply L3.r_retO); rfl) | ((with_reducible apply L3.r_app); rfl) | ((with_reducible apply L3.r_ins); rfl)
  | with_reducible refine L3.r_rev ?_ | with_reducible refine L3.r_slL ?_ | with_reducible refine L3.r_oNone ?_ | with_reducible refine L3.r_oSome ?_ | with_reducible refine L3.r_ifT ?_ | ((with_reducible apply L3.r_tuple); rfl) | ((with_reducible apply L3.r_list); rfl)
  | ((with_reducible apply L3.r_fldE); rfl; rfl) | ((with_reducible apply L3.r_appE); rfl; rfl) | ((with_reducible apply L3.r_insE); rfl; rfl) | ((with_reducible apply L3.r_ixE); rfl; rfl; rfl) | ((with_reducible apply L3.r_stFE); rfl; exact Nat.le_of_ble_eq_true rfl)
  | dsimp only)

set_option Elab.async false
set_option linter.all false
set_option maxRecDepth 100000
set_option maxHeartbeats 1000000
/-! stretches -/
namespace L3
open PySem L2
def sw (ts : List T3) (r : Rat) : Rat := sm ((ts.filter fun t => decide (t.1 ≤ r) && decide (r < t.2.1)).map (·.2.2))
def pairs (es : List Rat) : List (Rat × Rat) := es.zip es.tail
def ends (ts : List T3) : List Rat := asc (ts.map (·.1) ++ ts.map (·.2.1))
def cut (ts : List T3) : List T3 := (pairs (ends ts)).map fun p => (p.1, p.2, sw ts p.1)
def mstep (j : List T3) (p : T3) : List T3 := match j.getLast? with
  | none => [p]
  | some q => if q.2.2 = p.2.2 then j.dropLast ++ [(q.1, p.2.1, p.2.2)] else j ++ [p]
def mrg (ps : List T3) : List T3 := ps.foldl mstep []
def szd (ps : List T3) : List T3 := ps.filter fun t => decide (0 < t.2.2)
theorem mstep_nil {p : T3} : mstep [] p = [p] := rfl
theorem mstep_eq {ys : List T3} {q p : T3} (h : q.2.2 = p.2.2) : mstep (ys ++ [q]) p = ys ++ [(q.1, p.2.1, p.2.2)] := by
  unfold mstep
  rw [List.getLast?_concat]
  show (if q.2.2 = p.2.2 then _ else _) = _
  rw [if_pos h, List.dropLast_concat]
theorem mstep_ne {ys : List T3} {q p : T3} (h : ¬ q.2.2 = p.2.2) : mstep (ys ++ [q]) p = ys ++ [q] ++ [p] := by
  unfold mstep
  rw [List.getLast?_concat]
  show (if q.2.2 = p.2.2 then _ else _) = _
  rw [if_neg h]
theorem mrg_snoc (ps : List T3) (p : T3) : mrg (ps ++ [p]) = mstep (mrg ps) p := by
  unfold mrg; rw [List.foldl_append]; rfl
theorem mrg_all {A B C : Rat → Prop} : ∀ (ps : List T3), (∀ p ∈ ps, A p.1 ∧ B p.2.1 ∧ C p.2.2) → ∀ p ∈ mrg ps, A p.1 ∧ B p.2.1 ∧ C p.2.2 := by
  intro ps
  have key : ∀ (ps J : List T3), (∀ p ∈ ps, A p.1 ∧ B p.2.1 ∧ C p.2.2) → (∀ p ∈ J, A p.1 ∧ B p.2.1 ∧ C p.2.2) → ∀ p ∈ ps.foldl mstep J, A p.1 ∧ B p.2.1 ∧ C p.2.2 := by
    intro ps
    induction ps with
    | nil => intro J _ h; exact h
    | cons x ps ih =>
      intro J h hJ
      refine ih (mstep J x) (fun p hp => h p (List.mem_cons_of_mem _ hp)) ?_
      have hx := h x List.mem_cons_self
      rcases List.eq_nil_or_concat J with rfl | ⟨ys, q, rfl⟩
      · intro p hp
        rw [mstep_nil, List.mem_singleton] at hp
        rw [hp]; exact hx
      · rw [List.concat_eq_append] at hJ ⊢
        by_cases e : q.2.2 = x.2.2
        · rw [mstep_eq e]
          intro p hp
          rcases List.mem_append.mp hp with z | z
          · exact hJ p (List.mem_append_left _ z)
          · rw [List.mem_singleton] at z
            rw [z]
            exact ⟨(hJ q (List.mem_append_right _ List.mem_cons_self)).1, hx.2⟩
        · rw [mstep_ne e]
          intro p hp
          rcases List.mem_append.mp hp with z | z
          · exact hJ p z
          · rw [List.mem_singleton] at z
            rw [z]; exact hx
  exact fun h => key ps [] h (fun p hp => by cases hp)
theorem mrg_len (ps : List T3) : (mrg ps).length ≤ ps.length := by
  have key : ∀ (ps J : List T3), (ps.foldl mstep J).length ≤ ps.length + J.length := by
    intro ps
    induction ps with
    | nil => intro J; simp
    | cons x ps ih =>
      intro J
      have h1 := ih (mstep J x)
      have h2 : (mstep J x).length ≤ J.length + 1 := by
        rcases List.eq_nil_or_concat J with rfl | ⟨ys, q, rfl⟩
        · simp [mstep_nil]
        · rw [List.concat_eq_append]
          by_cases e : q.2.2 = x.2.2
          · rw [mstep_eq e]; simp
          · rw [mstep_ne e]; simp
      rw [List.foldl_cons, List.length_cons]; omega
  have := key ps []
  simpa [mrg] using this
theorem cutD_tail {xs : List D} : cutD xs (some 1) none = xs.tail := by
  unfold cutD HT.sIx
  cases xs with
  | nil => rfl
  | cons x xs => simp
theorem zip_map {α : Type} {f : α → D} {xs ys : List α} : List.zipWith (fun x y => D.tup [x, y]) (xs.map f) (ys.map f) = (xs.zip ys).map fun p => D.tup [f p.1, f p.2] := by
  rw [List.zip, List.map_zipWith, List.zipWith_map]
theorem atI_last {xs : List D} {x : D} : atI (xs ++ [x]) (-1) = some x := by
  unfold atI ixN
  rw [if_neg (by omega), if_pos (by simp; omega)]
  show (xs ++ [x])[(-1 + ((xs ++ [x]).length : Int)).toNat]? = some x
  rw [List.length_append, List.length_singleton, show (-1 + ((xs.length + 1 : Nat) : Int)).toNat = xs.length by omega, List.getElem?_append_right (Nat.le_refl _), Nat.sub_self]
  rfl
theorem sw_sz {k : Nat} {ts : List T3} {r : Rat} (h : ∀ t ∈ ts, Sz k t.2.2) : Sz (ts.length * (k + 1) + 1) (sw ts r) := by
  refine (sm_sz (k := k) _ fun x hx => ?_).mono ?_
  · obtain ⟨t, ht, rfl⟩ := List.mem_map.mp hx
    exact h t (List.mem_filter.mp ht).1
  · rw [List.length_map]
    have := Nat.mul_le_mul_right (k + 1) (List.length_filter_le (fun t : T3 => decide (t.1 ≤ r) && decide (r < t.2.1)) ts)
    omega
theorem pairs_mem {es : List Rat} {p : Rat × Rat} (h : p ∈ pairs es) : p.1 ∈ es ∧ p.2 ∈ es := by
  obtain ⟨h1, h2⟩ := List.of_mem_zip (show (p.1, p.2) ∈ es.zip es.tail from h)
  exact ⟨h1, List.mem_of_mem_tail h2⟩
theorem pairs_lt : ∀ {es : List Rat}, Asc es → ∀ p ∈ pairs es, p.1 < p.2
  | [], _, p, h => by cases h
  | [x], _, p, h => by cases h
  | x :: y :: es, ha, p, h => by
    have h1 := List.pairwise_cons.mp ha
    have h : p ∈ (x, y) :: pairs (y :: es) := h
    rcases List.mem_cons.mp h with z | z
    · rw [z]; exact h1.1 y List.mem_cons_self
    · exact pairs_lt h1.2 p z
theorem pairs_len (es : List Rat) : (pairs es).length ≤ es.length := by
  unfold pairs; rw [List.length_zip]; omega
theorem ends_len (ts : List T3) : (ends ts).length ≤ 2 * ts.length := by
  have := asc_len (ts.map (·.1) ++ ts.map (·.2.1))
  rw [List.length_append, List.length_map, List.length_map] at this
  unfold ends; omega
theorem ends_mem {ts : List T3} {y : Rat} : y ∈ ends ts ↔ ∃ t ∈ ts, y = t.1 ∨ y = t.2.1 := by
  unfold ends
  rw [asc_mem, List.mem_append, List.mem_map, List.mem_map]
  constructor
  · rintro (⟨t, h, e⟩ | ⟨t, h, e⟩)
    · exact ⟨t, h, .inl e.symm⟩
    · exact ⟨t, h, .inr e.symm⟩
  · rintro ⟨t, h, e | e⟩
    · exact .inl ⟨t, h, e.symm⟩
    · exact .inr ⟨t, h, e.symm⟩
section
variable {δ1 δ : List S} {g : Wg} {t : Wb} {u : Wt} {vs : List Nat} {α : Type} {f : α → D} {out : α → D} {sel : α → Bool} {QL : List D → List S → Prop}
theorem lcp (xs : List α) (h0 : wipeS δ1 vs = δ)
    (turn : ∀ x ∈ xs, ∀ (A : D → List S → Prop) (Bq : List S → Prop), (sel x = true → ∀ δ3, δ3.map S.owned = δ.map S.owned → wipeS δ3 vs = δ → A (out x) δ3) → (sel x = false → ∀ δ3, δ3.map S.owned = δ.map S.owned → wipeS δ3 vs = δ → Bq δ3) →
      g (f x) δ fun δ1 => t δ1 (fun c δ2 => if c = true then u δ2 A (fun _ _ => False) else Bq δ2) (fun _ _ => False))
    (len : xs.length ≤ 1000) (q : ∀ δe, δe = backS δ1 vs δ → QL ((xs.filter sel).map out) δe) : lcD g t u vs δ1 QL (xs.map f) [] (wipeS δ1 vs) := by
  rw [h0]
  exact lc_pure xs [] turn (by rw [List.length_nil]; omega) (q _ rfl)
theorem lca (xs : List α) (h0 : wipeS δ1 vs = δ)
    (turn : ∀ x ∈ xs, ∀ (A : D → List S → Prop), (∀ δ3, δ3.map S.owned = δ.map S.owned → wipeS δ3 vs = δ → A (out x) δ3) → g (f x) δ fun δ1 => u δ1 A (fun _ _ => False))
    (len : xs.length ≤ 1000) (q : ∀ δe, δe = backS δ1 vs δ → QL (xs.map out) δe) : lcD g (fun δ Q _ => Q true δ) u vs δ1 QL (xs.map f) [] (wipeS δ1 vs) := by
  rw [h0]
  exact lc_all xs turn len (q _ rfl)
end
end L3

set_option Elab.async false
set_option linter.all false
set_option maxRecDepth 100000
set_option maxHeartbeats 1000000
/-! pools: levels, parts ahead -/
namespace L3
open PySem L2
def stre (ts : List T3) : List T3 := mrg (cut ts)
def lev (b : Bool) (r : Rat) : Rat := if b then r else 1 / r
instance sz_lev {j : Nat} {r : Rat} {b : Bool} [h : Sz j r] : Sz (j + 1) (lev b r) := by
  unfold lev
  cases b with
  | true => exact h.mono (by omega)
  | false => exact (@sz_div 1 j 1 r sz_one h).mono (by omega)
def levels (b : Bool) (ps : List T3) : List T3 := if b then ps.map (fun t => (lev b t.1, lev b t.2.1, t.2.2)) else (ps.map (fun t => (lev b t.1, lev b t.2.1, t.2.2))).reverse.map fun t => (t.2.1, t.1, t.2.2)
def ahead (b : Bool) (ss : List T3) (root : Rat) : List T3 := ((levels b (szd ss)).filter fun t => decide (lev b root < t.2.1)).map fun t => (mx t.1 (lev b root), t.2.1, t.2.2)
def paid (parts : List T3) : Rat := sm (parts.map fun t => t.2.2 * (t.2.1 - t.1))
def took (parts : List T3) : Rat := sm (parts.map fun t => t.2.2 / t.1 - t.2.2 / t.2.1)
def upto (parts : List T3) (goal : Rat) : List T3 := (parts.filter fun t => decide (t.1 < goal)).map fun t => (t.1, mn t.2.1 goal, t.2.2)
theorem cut_all {A C : Rat → Prop} {ts : List T3} (hA : ∀ t ∈ ts, A t.1 ∧ A t.2.1) (hC : ∀ r, C (sw ts r)) : ∀ p ∈ cut ts, A p.1 ∧ A p.2.1 ∧ C p.2.2 := by
  intro p hp
  obtain ⟨e, he, rfl⟩ := List.mem_map.mp hp
  obtain ⟨m1, m2⟩ := pairs_mem he
  have mem : ∀ y ∈ ends ts, A y := fun y hy => by
    obtain ⟨t, ht, z | z⟩ := ends_mem.mp hy
    · rw [z]; exact (hA t ht).1
    · rw [z]; exact (hA t ht).2
  exact ⟨mem _ m1, mem _ m2, hC _⟩
theorem cut_len (ts : List T3) : (cut ts).length ≤ 2 * ts.length := by
  unfold cut; rw [List.length_map]
  exact Nat.le_trans (pairs_len _) (ends_len ts)
theorem stre_len (ts : List T3) : (stre ts).length ≤ 2 * ts.length := Nat.le_trans (mrg_len _) (cut_len ts)
theorem stre_all {A C : Rat → Prop} {ts : List T3} (hA : ∀ t ∈ ts, A t.1 ∧ A t.2.1) (hC : ∀ r, C (sw ts r)) : ∀ p ∈ stre ts, A p.1 ∧ A p.2.1 ∧ C p.2.2 := mrg_all _ (cut_all hA hC)
theorem plS (x : Str) (h : PyData.strOk x = true) : plD (.str x) 1 := h
theorem u_eqSt {x y : Str} {P : D → Prop} (hx : PyData.strOk x = true) (hy : PyData.strOk y = true) (q : P (.bl (decide (x = y)))) : oEqD (.str x) (.str y) P :=
  u_eqX (plS x hx) (plS y hy) (by omega) (by omega) ⟨fun h => by injection h, fun h => by rw [h]⟩ q
theorem u_neSt {x y : Str} {P : D → Prop} (hx : PyData.strOk x = true) (hy : PyData.strOk y = true) (q : P (.bl (!decide (x = y)))) : oNeD (.str x) (.str y) P :=
  u_neX (plS x hx) (plS y hy) (by omega) (by omega) ⟨fun h => by injection h, fun h => by rw [h]⟩ q
/-- a good's letter -/
def gs (b : Bool) : Str := if b then "b" else "a"
theorem sb_ok : PyData.strOk ("b" : Str) = true := by kernel_rfl
theorem sa_ok : PyData.strOk ("a" : Str) = true := by kernel_rfl
theorem gs_ok (b : Bool) : PyData.strOk (gs b) = true := by
  cases b with
  | true => exact sb_ok
  | false => exact sa_ok
theorem gs_b (b : Bool) : decide (gs b = ("b" : Str)) = b := by cases b <;> rfl
theorem gs_a (b : Bool) : decide (gs b = ("a" : Str)) = !b := by cases b <;> rfl
theorem u_isB {b : Bool} {P : D → Prop} (q : P (.bl b)) : oEqD (.str (gs b)) (.str "b") P := u_eqSt (gs_ok b) sb_ok (by rw [gs_b]; exact q)
theorem u_isA {b : Bool} {P : D → Prop} (q : P (.bl (!b))) : oEqD (.str (gs b)) (.str "a") P := u_eqSt (gs_ok b) sa_ok (by rw [gs_a]; exact q)
theorem r_iteB {b : Bool} {A B : Prop} (h1 : b = true → A) (h2 : b = false → B) : if b = true then A else B := by
  cases b with
  | true => rw [if_pos rfl]; exact h1 rfl
  | false => rw [if_neg Bool.false_ne_true]; exact h2 rfl
theorem map_rev {α β : Type} {f : α → β} {xs : List α} : (xs.map f).reverse = xs.reverse.map f := by rw [List.map_reverse]
theorem levels_all {A C : Rat → Prop} {b : Bool} {ps : List T3} (h : ∀ p ∈ ps, A (lev b p.1) ∧ A (lev b p.2.1) ∧ C p.2.2) : ∀ p ∈ levels b ps, A p.1 ∧ A p.2.1 ∧ C p.2.2 := by
  intro p hp
  unfold levels at hp
  cases b with
  | true =>
    rw [if_pos rfl] at hp
    obtain ⟨t, ht, rfl⟩ := List.mem_map.mp hp
    exact h t ht
  | false =>
    rw [if_neg Bool.false_ne_true] at hp
    obtain ⟨u, hu, rfl⟩ := List.mem_map.mp hp
    obtain ⟨t, ht, rfl⟩ := List.mem_map.mp (List.mem_reverse.mp hu)
    obtain ⟨a, b, c⟩ := h t ht
    exact ⟨b, a, c⟩
theorem levels_len {b : Bool} {ps : List T3} : (levels b ps).length = ps.length := by
  unfold levels; cases b <;> simp
end L3

set_option Elab.async false
set_option linter.all false
set_option maxRecDepth 100000
set_option maxHeartbeats 1000000
/-! the law's own lists -/
namespace L3
open PySem L2
abbrev p3 (t : T3) : D := .tup [pr t.1, pr t.2.1, pr t.2.2]
theorem pl_p3 (t : T3) : plD (p3 t) 2 := ⟨1, rfl, pl_pr _, pl_pr _, pl_pr _, trivial⟩
structure Bk (t : T3) : Prop where
  l : Sz 4 t.1
  h : Sz 4 t.2.1
  z : Sz 6 t.2.2
  l0 : 0 < t.1
  lh : t.1 < t.2.1
  z0 : 0 < t.2.2
/-- a place -/
structure Pl (r : Rat) : Prop where
  s : Sz 4 r
  p : 0 < r
theorem rangeD_map (n : Nat) : rangeD 0 n = (List.range n).map fun i : Nat => D.int (0 + (i : Int)) := rfl
def szb (book : List T3) (lo hi : Rat) : Rat := sm ((book.filter fun t => !decide (lo < t.1) && !decide (t.2.1 < hi)).map (·.2.2))
theorem szb_sz {k : Nat} {ts : List T3} {lo hi : Rat} (h : ∀ t ∈ ts, Sz k t.2.2) : Sz (ts.length * (k + 1) + 1) (szb ts lo hi) := by
  refine (sm_sz (k := k) _ fun x hx => ?_).mono ?_
  · obtain ⟨t, ht, rfl⟩ := List.mem_map.mp hx
    exact h t (List.mem_filter.mp ht).1
  · rw [List.length_map]
    have := Nat.mul_le_mul_right (k + 1) (List.length_filter_le (fun t : T3 => !decide (lo < t.1) && !decide (t.2.1 < hi)) ts)
    omega
/-- the points: as the law puts them together -/
def pts (book : List T3) : List Rat := book.foldl (fun xs t => ins (ins xs t.1) t.2.1) []
theorem pts_snoc (pre : List T3) (t : T3) : pts (pre ++ [t]) = ins (ins (pts pre) t.1) t.2.1 := by unfold pts; rw [List.foldl_append]; rfl
theorem pts_asc (book : List T3) : Asc (pts book) := by
  have key : ∀ (b : List T3) (xs : List Rat), Asc xs → Asc (b.foldl (fun xs t => ins (ins xs t.1) t.2.1) xs) := by
    intro b
    induction b with
    | nil => intro xs h; exact h
    | cons t b ih => intro xs h; exact ih _ (ins_asc (ins_asc h))
  exact key book [] List.Pairwise.nil
theorem pts_mem {book : List T3} {y : Rat} : y ∈ pts book ↔ ∃ t ∈ book, y = t.1 ∨ y = t.2.1 := by
  have key : ∀ (b : List T3) (xs : List Rat), y ∈ b.foldl (fun xs t => ins (ins xs t.1) t.2.1) xs ↔ y ∈ xs ∨ ∃ t ∈ b, y = t.1 ∨ y = t.2.1 := by
    intro b
    induction b with
    | nil => intro xs; simp
    | cons t b ih =>
      intro xs
      rw [List.foldl_cons, ih, ins_mem, ins_mem]
      constructor
      · rintro ((z | z | z) | ⟨u, hu, z⟩)
        · exact .inr ⟨t, List.mem_cons_self, .inr z⟩
        · exact .inr ⟨t, List.mem_cons_self, .inl z⟩
        · exact .inl z
        · exact .inr ⟨u, List.mem_cons_of_mem _ hu, z⟩
      · rintro (z | ⟨u, hu, z⟩)
        · exact .inl (.inr (.inr z))
        · rcases List.mem_cons.mp hu with e | hu
          · subst e
            rcases z with z | z
            · exact .inl (.inr (.inl z))
            · exact .inl (.inl z)
          · exact .inr ⟨u, hu, z⟩
  have := key book []
  simpa [pts] using this
theorem pts_ends (book : List T3) : pts book = ends book := asc_uniq (pts_asc book) (asc_asc _) fun y => by rw [pts_mem, ends_mem]
theorem pts_len (book : List T3) : (pts book).length ≤ 2 * book.length := by rw [pts_ends]; exact ends_len book
/-- the rows from a place on, up or down -/
def wst (b : Bool) (book : List T3) (s : Rat × List T3) (x : Rat) : Rat × List T3 :=
  if (if b then s.1 < x else x < s.1) then (x, s.2 ++ [(s.1, x, if b then szb book s.1 x else szb book x s.1)]) else s
def wpts (b : Bool) (book : List T3) : List Rat := if b then pts book else (pts book).reverse
def within (b : Bool) (book : List T3) (s : Rat) : List T3 := ((wpts b book).foldl (wst b book) (s, [])).2
def cost (b : Bool) (t : T3) : Rat := if b then t.2.2 * (t.2.1 - t.1) else t.2.2 * (1 / t.2.1 - 1 / t.1)
def gain (b : Bool) (t : T3) : Rat := if b then t.2.2 * (1 / t.1 - 1 / t.2.1) else t.2.2 * (t.1 - t.2.1)
/-- a trade: net, taken, last -/
def tstop (b : Bool) (net : Rat) (t : T3) : Rat := if net < cost b t then (if b then t.1 + net / t.2.2 else 1 / (1 / t.1 + net / t.2.2)) else t.2.1
def tused (b : Bool) (net : Rat) (t : T3) : Rat := if net < cost b t then net else cost b t
def tst (b : Bool) (s : Rat × Rat × Rat) (t : T3) : Rat × Rat × Rat :=
  if 0 < t.2.2 ∧ 0 < s.1 then (s.1 - tused b s.1 t, s.2.1 + gain b (t.1, tstop b s.1 t, t.2.2), tstop b s.1 t) else s
def trd (b : Bool) (rows : List T3) (s net : Rat) : Rat × Rat × Rat := rows.foldl (tst b) (net, 0, s)
end L3

set_option Elab.async false
set_option linter.all false
set_option maxRecDepth 100000
set_option maxHeartbeats 4000000
namespace K01
open PySem L2 L3
theorem sc_l_cell : FnScope ["_law_script", "_law_k"] ["_law_script", "_law_k"] (defScope s_l_cell) := ⟨rfl, rfl, rfl, by decide +kernel, rfl, by decide +kernel, by decide +kernel⟩
theorem sc_l_box : FnScope ["_law_script", "_law_k"] ["_law_script", "_law_k"] (defScope s_l_box) := ⟨rfl, rfl, rfl, by decide +kernel, rfl, by decide +kernel, by decide +kernel⟩
theorem sc_l_take : FnScope ["_law_box_here", "_law_many", "_law_mixed", "_law_digit"] ["_law_box_here", "_law_many"] (defScope s_l_take) := ⟨rfl, rfl, rfl, by decide +kernel, rfl, by decide +kernel, by decide +kernel⟩
theorem sc_l_same : FnScope ["_law_one", "_law_other"] ["_law_one", "_law_other"] (defScope s_l_same) := ⟨rfl, rfl, rfl, by decide +kernel, rfl, by decide +kernel, by decide +kernel⟩
theorem sc_l_kinds : FnScope ["_law_e", "_law_found", "_law_bit"] ["_law_e"] (defScope s_l_kinds) := ⟨rfl, rfl, rfl, by decide +kernel, rfl, by decide +kernel, by decide +kernel⟩
theorem sc_l_bases : FnScope ["_law_made", "_law_bad", "_law_e"] [] (defScope s_l_bases) := ⟨rfl, rfl, rfl, by decide +kernel, rfl, by decide +kernel, by decide +kernel⟩
theorem sc_l_law : FnScope ["_law_script", "_law_box_here", "_law_a", "_law_b", "_law_kept", "_law_more", "_law_k", "_law_passed"] ["_law_script"] (defScope s_l_law) := ⟨rfl, rfl, rfl, by decide +kernel, rfl, by decide +kernel, by decide +kernel⟩
structure Ad where
  f_l_law : Addr
  d_l_law : FuncData
  f_l_box : Addr
  d_l_box : FuncData
  f_l_cell : Addr
  d_l_cell : FuncData
  f_l_take : Addr
  d_l_take : FuncData
  C_BadNumber : Addr
  f_BadNumber_init : Addr
  d_BadNumber_init : FuncData
  C_BadSize : Addr
  f_BadSize_init : Addr
  d_BadSize_init : FuncData
  C_BadRoot : Addr
  f_BadRoot_init : Addr
  d_BadRoot_init : FuncData
  C_BadFee : Addr
  f_BadFee_init : Addr
  d_BadFee_init : FuncData
  C_BadGood : Addr
  f_BadGood_init : Addr
  d_BadGood_init : FuncData
  C_BadAmount : Addr
  f_BadAmount_init : Addr
  d_BadAmount_init : FuncData
  C_NoWay : Addr
  f_NoWay_init : Addr
  d_NoWay_init : FuncData
  C_BadName : Addr
  f_BadName_init : Addr
  d_BadName_init : FuncData
  C_InUse : Addr
  f_InUse_init : Addr
  d_InUse_init : FuncData
  C_NoPosition : Addr
  f_NoPosition_init : Addr
  d_NoPosition_init : FuncData
  C_NoPool : Addr
  f_NoPool_init : Addr
  d_NoPool_init : FuncData
  C_BadWeb : Addr
  f_BadWeb_init : Addr
  d_BadWeb_init : FuncData
  C_NoGood : Addr
  f_NoGood_init : Addr
  d_NoGood_init : FuncData
  C_BadShare : Addr
  f_BadShare_init : Addr
  d_BadShare_init : FuncData
  C_BadDeed : Addr
  f_BadDeed_init : Addr
  d_BadDeed_init : FuncData
  C_Short : Addr
  f_Short_init : Addr
  d_Short_init : FuncData
  f_l_same : Addr
  d_l_same : FuncData
  C_BadLine : Addr
  f_BadLine_init : Addr
  d_BadLine_init : FuncData
  f_l_bases : Addr
  d_l_bases : FuncData
  C_ByZero : Addr
  C_BadText : Addr
  C_BadRange : Addr
  C_Lacking : Addr
  C_BadRoute : Addr
  C_TooMuch : Addr
  C_UnlikeFees : Addr
  C_BadPrices : Addr
  C_BadSplit : Addr
  C_BadRing : Addr
  C_NothingToUndo : Addr
  C_NothingToRedo : Addr
  C_PoolError : Addr
  f_l_kinds : Addr
  d_l_kinds : FuncData
structure Txt (K : PySem.W.Frag) (mg : Str → Option Value) (Z : Ad) : Prop where
  F_l_law : L2.Fun K "law" "law" s_l_law Z.f_l_law Z.d_l_law
  B_l_law : Binds K Z.d_l_law ["_law_script"] []
  F_l_box : L2.Fun K "_law_box" "_law_box" s_l_box Z.f_l_box Z.d_l_box
  B_l_box : Binds K Z.d_l_box ["_law_script", "_law_k"] []
  F_l_cell : L2.Fun K "_law_cell" "_law_cell" s_l_cell Z.f_l_cell Z.d_l_cell
  B_l_cell : Binds K Z.d_l_cell ["_law_script", "_law_k"] []
  N_len : mg "len" = none
  G_l_cell : mg "_law_cell" = some (.ref Z.f_l_cell)
  N_int : mg "int" = none
  N_abs : mg "abs" = none
  G_l_box : mg "_law_box" = some (.ref Z.f_l_box)
  F_l_take : L2.Fun K "_law_take" "_law_take" s_l_take Z.f_l_take Z.d_l_take
  B_l_take : Binds K Z.d_l_take ["_law_box_here", "_law_many"] []
  G_l_take : mg "_law_take" = some (.ref Z.f_l_take)
  F_BadNumber_init : L2.Fun K "__init__" "BadNumber.__init__" s_BadNumber_init Z.f_BadNumber_init Z.d_BadNumber_init
  B_BadNumber_init : Binds K Z.d_BadNumber_init ["self", "given"] []
  E1_BadNumber : Er1 K mg Z.C_BadNumber Z.f_BadNumber_init "BadNumber" "given"
  F_BadSize_init : L2.Fun K "__init__" "BadSize.__init__" s_BadSize_init Z.f_BadSize_init Z.d_BadSize_init
  B_BadSize_init : Binds K Z.d_BadSize_init ["self", "given"] []
  E1_BadSize : Er1 K mg Z.C_BadSize Z.f_BadSize_init "BadSize" "given"
  F_BadRoot_init : L2.Fun K "__init__" "BadRoot.__init__" s_BadRoot_init Z.f_BadRoot_init Z.d_BadRoot_init
  B_BadRoot_init : Binds K Z.d_BadRoot_init ["self", "given"] []
  E1_BadRoot : Er1 K mg Z.C_BadRoot Z.f_BadRoot_init "BadRoot" "given"
  F_BadFee_init : L2.Fun K "__init__" "BadFee.__init__" s_BadFee_init Z.f_BadFee_init Z.d_BadFee_init
  B_BadFee_init : Binds K Z.d_BadFee_init ["self", "given"] []
  E1_BadFee : Er1 K mg Z.C_BadFee Z.f_BadFee_init "BadFee" "given"
  F_BadGood_init : L2.Fun K "__init__" "BadGood.__init__" s_BadGood_init Z.f_BadGood_init Z.d_BadGood_init
  B_BadGood_init : Binds K Z.d_BadGood_init ["self", "given"] []
  E1_BadGood : Er1 K mg Z.C_BadGood Z.f_BadGood_init "BadGood" "given"
  F_BadAmount_init : L2.Fun K "__init__" "BadAmount.__init__" s_BadAmount_init Z.f_BadAmount_init Z.d_BadAmount_init
  B_BadAmount_init : Binds K Z.d_BadAmount_init ["self", "given"] []
  E1_BadAmount : Er1 K mg Z.C_BadAmount Z.f_BadAmount_init "BadAmount" "given"
  F_NoWay_init : L2.Fun K "__init__" "NoWay.__init__" s_NoWay_init Z.f_NoWay_init Z.d_NoWay_init
  B_NoWay_init : Binds K Z.d_NoWay_init ["self", "given"] []
  E1_NoWay : Er1 K mg Z.C_NoWay Z.f_NoWay_init "NoWay" "given"
  F_BadName_init : L2.Fun K "__init__" "BadName.__init__" s_BadName_init Z.f_BadName_init Z.d_BadName_init
  B_BadName_init : Binds K Z.d_BadName_init ["self", "given"] []
  E1_BadName : Er1 K mg Z.C_BadName Z.f_BadName_init "BadName" "given"
  F_InUse_init : L2.Fun K "__init__" "InUse.__init__" s_InUse_init Z.f_InUse_init Z.d_InUse_init
  B_InUse_init : Binds K Z.d_InUse_init ["self", "given"] []
  E1_InUse : Er1 K mg Z.C_InUse Z.f_InUse_init "InUse" "given"
  F_NoPosition_init : L2.Fun K "__init__" "NoPosition.__init__" s_NoPosition_init Z.f_NoPosition_init Z.d_NoPosition_init
  B_NoPosition_init : Binds K Z.d_NoPosition_init ["self", "given"] []
  E1_NoPosition : Er1 K mg Z.C_NoPosition Z.f_NoPosition_init "NoPosition" "given"
  F_NoPool_init : L2.Fun K "__init__" "NoPool.__init__" s_NoPool_init Z.f_NoPool_init Z.d_NoPool_init
  B_NoPool_init : Binds K Z.d_NoPool_init ["self", "given"] []
  E1_NoPool : Er1 K mg Z.C_NoPool Z.f_NoPool_init "NoPool" "given"
  F_BadWeb_init : L2.Fun K "__init__" "BadWeb.__init__" s_BadWeb_init Z.f_BadWeb_init Z.d_BadWeb_init
  B_BadWeb_init : Binds K Z.d_BadWeb_init ["self", "given"] []
  E1_BadWeb : Er1 K mg Z.C_BadWeb Z.f_BadWeb_init "BadWeb" "given"
  F_NoGood_init : L2.Fun K "__init__" "NoGood.__init__" s_NoGood_init Z.f_NoGood_init Z.d_NoGood_init
  B_NoGood_init : Binds K Z.d_NoGood_init ["self", "given"] []
  E1_NoGood : Er1 K mg Z.C_NoGood Z.f_NoGood_init "NoGood" "given"
  F_BadShare_init : L2.Fun K "__init__" "BadShare.__init__" s_BadShare_init Z.f_BadShare_init Z.d_BadShare_init
  B_BadShare_init : Binds K Z.d_BadShare_init ["self", "given"] []
  E1_BadShare : Er1 K mg Z.C_BadShare Z.f_BadShare_init "BadShare" "given"
  F_BadDeed_init : L2.Fun K "__init__" "BadDeed.__init__" s_BadDeed_init Z.f_BadDeed_init Z.d_BadDeed_init
  B_BadDeed_init : Binds K Z.d_BadDeed_init ["self", "given"] []
  E1_BadDeed : Er1 K mg Z.C_BadDeed Z.f_BadDeed_init "BadDeed" "given"
  F_Short_init : L2.Fun K "__init__" "Short.__init__" s_Short_init Z.f_Short_init Z.d_Short_init
  B_Short_init : Binds K Z.d_Short_init ["self", "given"] []
  E1_Short : Er1 K mg Z.C_Short Z.f_Short_init "Short" "given"
  N_range : mg "range" = none
  F_l_same : L2.Fun K "_law_same" "_law_same" s_l_same Z.f_l_same Z.d_l_same
  B_l_same : Binds K Z.d_l_same ["_law_one", "_law_other"] []
  N_repr : mg "repr" = none
  N_bool : mg "bool" = none
  N_isinstance : mg "isinstance" = none
  G_l_same : mg "_law_same" = some (.ref Z.f_l_same)
  F_BadLine_init : L2.Fun K "__init__" "BadLine.__init__" s_BadLine_init Z.f_BadLine_init Z.d_BadLine_init
  B_BadLine_init : Binds K Z.d_BadLine_init ["self", "line"] []
  E1_BadLine : Er1 K mg Z.C_BadLine Z.f_BadLine_init "BadLine" "line"
  F_l_bases : L2.Fun K "_law_bases" "_law_bases" s_l_bases Z.f_l_bases Z.d_l_bases
  B_l_bases : Binds K Z.d_l_bases [] []
  E0_ByZero : Er0 K mg Z.C_ByZero "ByZero"
  E0_BadText : Er0 K mg Z.C_BadText "BadText"
  E0_BadRange : Er0 K mg Z.C_BadRange "BadRange"
  E0_Lacking : Er0 K mg Z.C_Lacking "Lacking"
  E0_BadRoute : Er0 K mg Z.C_BadRoute "BadRoute"
  E0_TooMuch : Er0 K mg Z.C_TooMuch "TooMuch"
  E0_UnlikeFees : Er0 K mg Z.C_UnlikeFees "UnlikeFees"
  E0_BadPrices : Er0 K mg Z.C_BadPrices "BadPrices"
  E0_BadSplit : Er0 K mg Z.C_BadSplit "BadSplit"
  E0_BadRing : Er0 K mg Z.C_BadRing "BadRing"
  E0_NothingToUndo : Er0 K mg Z.C_NothingToUndo "NothingToUndo"
  E0_NothingToRedo : Er0 K mg Z.C_NothingToRedo "NothingToRedo"
  G_PoolError : mg "PoolError" = some (.ref Z.C_PoolError)
  N_ValueError : mg "ValueError" = none
  F_l_kinds : L2.Fun K "_law_kinds" "_law_kinds" s_l_kinds Z.f_l_kinds Z.d_l_kinds
  B_l_kinds : Binds K Z.d_l_kinds ["_law_e"] []
  G_BadNumber : mg "BadNumber" = some (.ref Z.C_BadNumber)
  G_BadSize : mg "BadSize" = some (.ref Z.C_BadSize)
  G_BadRoot : mg "BadRoot" = some (.ref Z.C_BadRoot)
  G_BadFee : mg "BadFee" = some (.ref Z.C_BadFee)
  G_BadGood : mg "BadGood" = some (.ref Z.C_BadGood)
  G_BadAmount : mg "BadAmount" = some (.ref Z.C_BadAmount)
  G_NoWay : mg "NoWay" = some (.ref Z.C_NoWay)
  G_BadName : mg "BadName" = some (.ref Z.C_BadName)
  G_InUse : mg "InUse" = some (.ref Z.C_InUse)
  G_NoPosition : mg "NoPosition" = some (.ref Z.C_NoPosition)
  G_NoPool : mg "NoPool" = some (.ref Z.C_NoPool)
  G_BadWeb : mg "BadWeb" = some (.ref Z.C_BadWeb)
  G_NoGood : mg "NoGood" = some (.ref Z.C_NoGood)
  G_BadShare : mg "BadShare" = some (.ref Z.C_BadShare)
  G_BadDeed : mg "BadDeed" = some (.ref Z.C_BadDeed)
  G_Short : mg "Short" = some (.ref Z.C_Short)
  G_ByZero : mg "ByZero" = some (.ref Z.C_ByZero)
  G_BadText : mg "BadText" = some (.ref Z.C_BadText)
  G_BadRange : mg "BadRange" = some (.ref Z.C_BadRange)
  G_Lacking : mg "Lacking" = some (.ref Z.C_Lacking)
  G_BadRoute : mg "BadRoute" = some (.ref Z.C_BadRoute)
  G_TooMuch : mg "TooMuch" = some (.ref Z.C_TooMuch)
  G_UnlikeFees : mg "UnlikeFees" = some (.ref Z.C_UnlikeFees)
  G_BadPrices : mg "BadPrices" = some (.ref Z.C_BadPrices)
  G_BadSplit : mg "BadSplit" = some (.ref Z.C_BadSplit)
  G_BadRing : mg "BadRing" = some (.ref Z.C_BadRing)
  G_NothingToUndo : mg "NothingToUndo" = some (.ref Z.C_NothingToUndo)
  G_NothingToRedo : mg "NothingToRedo" = some (.ref Z.C_NothingToRedo)
  G_BadLine : mg "BadLine" = some (.ref Z.C_BadLine)
  G_l_kinds : mg "_law_kinds" = some (.ref Z.f_l_kinds)
  G_l_bases : mg "_law_bases" = some (.ref Z.f_l_bases)
  G_l_law : mg "law" = some (.ref Z.f_l_law)
  kit_int_bool : PySem.W.kitOne K (.type "int") (.type "bool") = some false
  kit_bool_bool : PySem.W.kitOne K (.type "bool") (.type "bool") = some true
  kit_NoneType_bool : PySem.W.kitOne K (.type "NoneType") (.type "bool") = some false
  kit_str_bool : PySem.W.kitOne K (.type "str") (.type "bool") = some false
  kit_list_bool : PySem.W.kitOne K (.type "list") (.type "bool") = some false
  kit_tuple_bool : PySem.W.kitOne K (.type "tuple") (.type "bool") = some false
  kit_dict_bool : PySem.W.kitOne K (.type "dict") (.type "bool") = some false
  ERS : ErsK K [Z.C_BadNumber, Z.C_BadSize, Z.C_BadRoot, Z.C_BadFee, Z.C_BadGood, Z.C_BadAmount, Z.C_NoWay, Z.C_BadName, Z.C_InUse, Z.C_NoPosition, Z.C_NoPool, Z.C_BadWeb, Z.C_NoGood, Z.C_BadShare, Z.C_BadDeed, Z.C_Short, Z.C_ByZero, Z.C_BadText, Z.C_BadRange, Z.C_Lacking, Z.C_BadRoute, Z.C_TooMuch, Z.C_UnlikeFees, Z.C_BadPrices, Z.C_BadSplit, Z.C_BadRing, Z.C_NothingToUndo, Z.C_NothingToRedo, Z.C_BadLine] Z.C_PoolError
section
variable {P : Program} {w : World} {K : PySem.W.Frag} {mg : Str → Option Value} {base : Heap} {Z : Ad}
def w_l_cell (K : PySem.W.Frag) (Z : Ad) : Ws := (wRet (wIf (wTst (wOp (oI CT fun i j => .bl (decide (i < j))) (wVar 1) (wCB zLen (wCons (wVar 0) wNil)))) (wOp oIx (wVar 0) (wVar 1)) (wC (.int 0))))
def q_l_cell (K : PySem.W.Frag) (Z : Ad) : Fn := fnOf 2 0 (w_l_cell K Z)
theorem ok_l_cell (T : Txt K mg Z) : FnG P w K mg base (L2.CX P w) 1 Z.f_l_cell Z.d_l_cell ["_law_script", "_law_k"] (spF K 2 (q_l_cell K Z)) :=
  (def_ok T.F_l_cell (u := w_l_cell K Z) sc_l_cell rfl rfl fun cdv A outer s H E hr =>
    (ss_one (s_ret (x_if (x_tst (o_lt) (x_var 1) (x_callB b_len T.N_len rfl (xa_cons (x_var 0) xa_nil)) (nomark _)) (x_ix (x_var 0) (x_var 1) (fun _ _ => rfl)) x_int))))
def w_l_box (K : PySem.W.Frag) (Z : Ad) : Ws := (wRetL (wLstO (wCons (wCB zAbs (wCons (wCB zInt (wCons (wCall (q_l_cell K Z) [] (wCons (wVar 0) (wCons (wVar 1) wNil))) wNil)) wNil)) (wCons (wC (.int 0)) (wCons (wOp (oI CT fun i j => .int (i + j)) (wOp (oI CMulW fun i j => .int (i * j)) (wC (.int 40503)) (wVar 1)) (wC (.int 911))) wNil)))))
def q_l_box (K : PySem.W.Frag) (Z : Ad) : Fn := fnOf 2 0 (w_l_box K Z)
theorem ok_l_box (T : Txt K mg Z) : FnG P w K mg base (L2.CX P w) 2 Z.f_l_box Z.d_l_box ["_law_script", "_law_k"] (spF K 2 (q_l_box K Z)) :=
  (def_ok T.F_l_box (u := w_l_box K Z) sc_l_box rfl rfl fun cdv A outer s H E hr =>
    (ss_one (s_retL (xl_lst (xa_cons (x_callB b_abs T.N_abs rfl (xa_cons (x_callTy b_int T.N_int rfl (xa_cons (x_call (ok_l_cell (P := P) (w := w) (base := base) T) (hr.mono (by decide)) T.G_l_cell T.F_l_cell.kp T.B_l_cell .nil hdd0 (takes_of rfl rfl rfl rfl) hf_of (xa_cons (x_var 0) (xa_cons (x_var 1) xa_nil))) xa_nil)) xa_nil)) (xa_cons x_int (xa_cons (x_bin o_add (x_bin o_mul x_int (x_var 1)) x_int) xa_nil)))))))
def w_l_take (K : PySem.W.Frag) (Z : Ad) : Ws := (wSeq (wIfS (wTst (wOp (oI CT fun i j => .bl (decide (j ≤ i))) (wIxO 0 (wC (.int 0))) (wOp (oI CPowB fun i j => .int (i ^ j.toNat)) (wC (.int 10)) (wC (.int 18))))) (wSeq (wSet 3 (wOp (oI (fun _ j => j ≠ 0) fun i j => .int (i.fmod j)) (wCB zInt (wCons (wIxO 0 (wC (.int 0))) wNil)) (wVar 1)))
    (wSeq (wStO 0 (wOp (oI CDivF fun i j => .int (i.fdiv j)) (wIxO 0 (wC (.int 0))) (wVar 1)) (wC (.int 0)))
    (wRet (wVar 3)))) wNx)
    (wSeq (wStO 0 (wOp (oI CT fun i j => .int (i + j)) (wIxO 0 (wC (.int 1))) (wC (.int 1))) (wC (.int 1)))
    (wSeq (wSet 2 (wOp (oI (fun _ j => j ≠ 0) fun i j => .int (i.fmod j)) (wOp (oI CPowB fun i j => .int (i ^ j.toNat)) (wCB zInt (wCons (wOp (oI CT fun i j => .int (i + j)) (wOp (oI CT fun i j => .int (i + j)) (wOp (oI CMulW fun i j => .int (i * j)) (wOp (oI CT fun i j => .int (i + j)) (wIxO 0 (wC (.int 0))) (wC (.int 7))) (wC (.int 69069))) (wOp (oI CMulW fun i j => .int (i * j)) (wIxO 0 (wC (.int 1))) (wC (.int 40692)))) (wIxO 0 (wC (.int 2)))) wNil)) (wC (.int 3))) (wC (.int 2147483647))))
    (wSeq (wSet 2 (wOp (oI (fun _ j => j ≠ 0) fun i j => .int (i.fmod j)) (wOp (oI CPowB fun i j => .int (i ^ j.toNat)) (wCB zInt (wCons (wOp (oI CT fun i j => .int (i + j)) (wVar 2) (wOp (oI CMulW fun i j => .int (i * j)) (wIxO 0 (wC (.int 1))) (wC (.int 17389)))) wNil)) (wC (.int 3))) (wC (.int 2147483399))))
    (wRet (wOp (oI (fun _ j => j ≠ 0) fun i j => .int (i.fmod j)) (wCB zInt (wCons (wOp (oI CDivF fun i j => .int (i.fdiv j)) (wVar 2) (wC (.int 64))) wNil)) (wVar 1)))))))
def q_l_take (K : PySem.W.Frag) (Z : Ad) : Fn := fnOf 2 2 (w_l_take K Z)
theorem ok_l_take (T : Txt K mg Z) : FnG P w K mg base (L2.CX P w) 1 Z.f_l_take Z.d_l_take ["_law_box_here", "_law_many"] (spF K 2 (q_l_take K Z)) :=
  (def_ok T.F_l_take (u := w_l_take K Z) sc_l_take rfl rfl fun cdv A outer s H E hr =>
    (ss_cons (s_if (x_tst (o_ge) (x_ixO 0 x_int (fun _ _ => rfl)) (x_bin o_pow x_int x_int) (nomark _)) (ss_cons (s_set 3 sc_l_take.nd (x_bin o_mod (x_callTy b_int T.N_int rfl (xa_cons (x_ixO 0 x_int (fun _ _ => rfl)) xa_nil)) (x_var 1)))
    (ss_cons (s_sub 0 (x_bin o_fdivF (x_ixO 0 x_int (fun _ _ => rfl)) (x_var 1)) x_int)
    (ss_one (s_ret (x_var 3))))) ss_nil)
    (ss_cons (s_sub 0 (x_bin o_add (x_ixO 0 x_int (fun _ _ => rfl)) x_int) x_int)
    (ss_cons (s_set 2 sc_l_take.nd (x_bin o_mod (x_bin o_pow (x_callTy b_int T.N_int rfl (xa_cons (x_bin o_add (x_bin o_add (x_bin o_mul (x_bin o_add (x_ixO 0 x_int (fun _ _ => rfl)) x_int) x_int) (x_bin o_mul (x_ixO 0 x_int (fun _ _ => rfl)) x_int)) (x_ixO 0 x_int (fun _ _ => rfl))) xa_nil)) x_int) x_int))
    (ss_cons (s_set 2 sc_l_take.nd (x_bin o_mod (x_bin o_pow (x_callTy b_int T.N_int rfl (xa_cons (x_bin o_add (x_var 2) (x_bin o_mul (x_ixO 0 x_int (fun _ _ => rfl)) x_int)) xa_nil)) x_int) x_int))
    (ss_one (s_ret (x_bin o_mod (x_callTy b_int T.N_int rfl (xa_cons (x_bin o_fdivF (x_var 2) x_int) xa_nil)) (x_var 1)))))))))
theorem xok_BadNumber_init (T : Txt K mg Z) : FnOk P w K mg base (L2.CX P w) 1 Z.f_BadNumber_init Z.d_BadNumber_init ["self", "given"] (spXI Z.C_BadNumber "given") :=
  xinit_ok T.F_BadNumber_init T.E1_BadNumber ⟨rfl, rfl, rfl, by decide +kernel, rfl, by decide +kernel, by decide +kernel⟩ rfl (by decide) (by decide) rfl rfl
theorem xok_BadSize_init (T : Txt K mg Z) : FnOk P w K mg base (L2.CX P w) 1 Z.f_BadSize_init Z.d_BadSize_init ["self", "given"] (spXI Z.C_BadSize "given") :=
  xinit_ok T.F_BadSize_init T.E1_BadSize ⟨rfl, rfl, rfl, by decide +kernel, rfl, by decide +kernel, by decide +kernel⟩ rfl (by decide) (by decide) rfl rfl
theorem xok_BadRoot_init (T : Txt K mg Z) : FnOk P w K mg base (L2.CX P w) 1 Z.f_BadRoot_init Z.d_BadRoot_init ["self", "given"] (spXI Z.C_BadRoot "given") :=
  xinit_ok T.F_BadRoot_init T.E1_BadRoot ⟨rfl, rfl, rfl, by decide +kernel, rfl, by decide +kernel, by decide +kernel⟩ rfl (by decide) (by decide) rfl rfl
theorem xok_BadFee_init (T : Txt K mg Z) : FnOk P w K mg base (L2.CX P w) 1 Z.f_BadFee_init Z.d_BadFee_init ["self", "given"] (spXI Z.C_BadFee "given") :=
  xinit_ok T.F_BadFee_init T.E1_BadFee ⟨rfl, rfl, rfl, by decide +kernel, rfl, by decide +kernel, by decide +kernel⟩ rfl (by decide) (by decide) rfl rfl
theorem xok_BadGood_init (T : Txt K mg Z) : FnOk P w K mg base (L2.CX P w) 1 Z.f_BadGood_init Z.d_BadGood_init ["self", "given"] (spXI Z.C_BadGood "given") :=
  xinit_ok T.F_BadGood_init T.E1_BadGood ⟨rfl, rfl, rfl, by decide +kernel, rfl, by decide +kernel, by decide +kernel⟩ rfl (by decide) (by decide) rfl rfl
theorem xok_BadAmount_init (T : Txt K mg Z) : FnOk P w K mg base (L2.CX P w) 1 Z.f_BadAmount_init Z.d_BadAmount_init ["self", "given"] (spXI Z.C_BadAmount "given") :=
  xinit_ok T.F_BadAmount_init T.E1_BadAmount ⟨rfl, rfl, rfl, by decide +kernel, rfl, by decide +kernel, by decide +kernel⟩ rfl (by decide) (by decide) rfl rfl
theorem xok_NoWay_init (T : Txt K mg Z) : FnOk P w K mg base (L2.CX P w) 1 Z.f_NoWay_init Z.d_NoWay_init ["self", "given"] (spXI Z.C_NoWay "given") :=
  xinit_ok T.F_NoWay_init T.E1_NoWay ⟨rfl, rfl, rfl, by decide +kernel, rfl, by decide +kernel, by decide +kernel⟩ rfl (by decide) (by decide) rfl rfl
theorem xok_BadName_init (T : Txt K mg Z) : FnOk P w K mg base (L2.CX P w) 1 Z.f_BadName_init Z.d_BadName_init ["self", "given"] (spXI Z.C_BadName "given") :=
  xinit_ok T.F_BadName_init T.E1_BadName ⟨rfl, rfl, rfl, by decide +kernel, rfl, by decide +kernel, by decide +kernel⟩ rfl (by decide) (by decide) rfl rfl
theorem xok_InUse_init (T : Txt K mg Z) : FnOk P w K mg base (L2.CX P w) 1 Z.f_InUse_init Z.d_InUse_init ["self", "given"] (spXI Z.C_InUse "given") :=
  xinit_ok T.F_InUse_init T.E1_InUse ⟨rfl, rfl, rfl, by decide +kernel, rfl, by decide +kernel, by decide +kernel⟩ rfl (by decide) (by decide) rfl rfl
theorem xok_NoPosition_init (T : Txt K mg Z) : FnOk P w K mg base (L2.CX P w) 1 Z.f_NoPosition_init Z.d_NoPosition_init ["self", "given"] (spXI Z.C_NoPosition "given") :=
  xinit_ok T.F_NoPosition_init T.E1_NoPosition ⟨rfl, rfl, rfl, by decide +kernel, rfl, by decide +kernel, by decide +kernel⟩ rfl (by decide) (by decide) rfl rfl
theorem xok_NoPool_init (T : Txt K mg Z) : FnOk P w K mg base (L2.CX P w) 1 Z.f_NoPool_init Z.d_NoPool_init ["self", "given"] (spXI Z.C_NoPool "given") :=
  xinit_ok T.F_NoPool_init T.E1_NoPool ⟨rfl, rfl, rfl, by decide +kernel, rfl, by decide +kernel, by decide +kernel⟩ rfl (by decide) (by decide) rfl rfl
theorem xok_BadWeb_init (T : Txt K mg Z) : FnOk P w K mg base (L2.CX P w) 1 Z.f_BadWeb_init Z.d_BadWeb_init ["self", "given"] (spXI Z.C_BadWeb "given") :=
  xinit_ok T.F_BadWeb_init T.E1_BadWeb ⟨rfl, rfl, rfl, by decide +kernel, rfl, by decide +kernel, by decide +kernel⟩ rfl (by decide) (by decide) rfl rfl
theorem xok_NoGood_init (T : Txt K mg Z) : FnOk P w K mg base (L2.CX P w) 1 Z.f_NoGood_init Z.d_NoGood_init ["self", "given"] (spXI Z.C_NoGood "given") :=
  xinit_ok T.F_NoGood_init T.E1_NoGood ⟨rfl, rfl, rfl, by decide +kernel, rfl, by decide +kernel, by decide +kernel⟩ rfl (by decide) (by decide) rfl rfl
theorem xok_BadShare_init (T : Txt K mg Z) : FnOk P w K mg base (L2.CX P w) 1 Z.f_BadShare_init Z.d_BadShare_init ["self", "given"] (spXI Z.C_BadShare "given") :=
  xinit_ok T.F_BadShare_init T.E1_BadShare ⟨rfl, rfl, rfl, by decide +kernel, rfl, by decide +kernel, by decide +kernel⟩ rfl (by decide) (by decide) rfl rfl
theorem xok_BadDeed_init (T : Txt K mg Z) : FnOk P w K mg base (L2.CX P w) 1 Z.f_BadDeed_init Z.d_BadDeed_init ["self", "given"] (spXI Z.C_BadDeed "given") :=
  xinit_ok T.F_BadDeed_init T.E1_BadDeed ⟨rfl, rfl, rfl, by decide +kernel, rfl, by decide +kernel, by decide +kernel⟩ rfl (by decide) (by decide) rfl rfl
theorem xok_Short_init (T : Txt K mg Z) : FnOk P w K mg base (L2.CX P w) 1 Z.f_Short_init Z.d_Short_init ["self", "given"] (spXI Z.C_Short "given") :=
  xinit_ok T.F_Short_init T.E1_Short ⟨rfl, rfl, rfl, by decide +kernel, rfl, by decide +kernel, by decide +kernel⟩ rfl (by decide) (by decide) rfl rfl
def w_l_same (K : PySem.W.Frag) (Z : Ad) : Ws := (wRet (wAnd (wOp (oEqD) (wCB zRepr (wCons (wVar 0) wNil)) (wCB zRepr (wCons (wVar 1) wNil))) (wOp (oEqD) (wCB (zIsi K) (wCons (wVar 0) (wCons (wC (.ty "bool")) wNil))) (wCB (zIsi K) (wCons (wVar 1) (wCons (wC (.ty "bool")) wNil))))))
def q_l_same (K : PySem.W.Frag) (Z : Ad) : Fn := fnOf 2 0 (w_l_same K Z)
theorem ok_l_same (T : Txt K mg Z) : FnG P w K mg base (L2.CX P w) 1 Z.f_l_same Z.d_l_same ["_law_one", "_law_other"] (spF K 2 (q_l_same K Z)) :=
  (def_ok T.F_l_same (u := w_l_same K Z) sc_l_same rfl rfl fun cdv A outer s H E hr =>
    (ss_one (s_ret (x_and (x_cmp (o_eqU hr.r.units) (x_callB (b_repr (by have h := un_of hr; exact h) hr.g) T.N_repr rfl (xa_cons (x_var 0) xa_nil)) (x_callB (b_repr (by have h := un_of hr; exact h) hr.g) T.N_repr rfl (xa_cons (x_var 1) xa_nil)) (nomark _)) (x_one (x_cmp (o_eqU hr.r.units) (x_callB b_isi T.N_isinstance rfl (xa_cons (x_var 0) (xa_cons (x_ty T.N_bool rfl) xa_nil))) (x_callB b_isi T.N_isinstance rfl (xa_cons (x_var 1) (xa_cons (x_ty T.N_bool rfl) xa_nil))) (nomark _)))))))
theorem xok_BadLine_init (T : Txt K mg Z) : FnOk P w K mg base (L2.CX P w) 1 Z.f_BadLine_init Z.d_BadLine_init ["self", "line"] (spXI Z.C_BadLine "line") :=
  xinit_ok T.F_BadLine_init T.E1_BadLine ⟨rfl, rfl, rfl, by decide +kernel, rfl, by decide +kernel, by decide +kernel⟩ rfl (by decide) (by decide) rfl rfl
def w_l_kinds (K : PySem.W.Frag) (Z : Ad) : Ws := (wSeq (wSet 1 (wLst (wCons (wCB (zIsiE K) (wCons (wVar 0) (wCons (wC (.adr Z.C_BadNumber)) wNil))) (wCons (wCB (zIsiE K) (wCons (wVar 0) (wCons (wC (.adr Z.C_BadSize)) wNil))) (wCons (wCB (zIsiE K) (wCons (wVar 0) (wCons (wC (.adr Z.C_BadRoot)) wNil))) wNil)))))
    (wSeq (wSet 1 (wOp oCatL (wVar 1) (wLst (wCons (wCB (zIsiE K) (wCons (wVar 0) (wCons (wC (.adr Z.C_BadFee)) wNil))) (wCons (wCB (zIsiE K) (wCons (wVar 0) (wCons (wC (.adr Z.C_BadGood)) wNil))) (wCons (wCB (zIsiE K) (wCons (wVar 0) (wCons (wC (.adr Z.C_BadAmount)) wNil))) wNil))))))
    (wSeq (wSet 1 (wOp oCatL (wVar 1) (wLst (wCons (wCB (zIsiE K) (wCons (wVar 0) (wCons (wC (.adr Z.C_NoWay)) wNil))) (wCons (wCB (zIsiE K) (wCons (wVar 0) (wCons (wC (.adr Z.C_BadName)) wNil))) (wCons (wCB (zIsiE K) (wCons (wVar 0) (wCons (wC (.adr Z.C_InUse)) wNil))) wNil))))))
    (wSeq (wSet 1 (wOp oCatL (wVar 1) (wLst (wCons (wCB (zIsiE K) (wCons (wVar 0) (wCons (wC (.adr Z.C_NoPosition)) wNil))) (wCons (wCB (zIsiE K) (wCons (wVar 0) (wCons (wC (.adr Z.C_NoPool)) wNil))) (wCons (wCB (zIsiE K) (wCons (wVar 0) (wCons (wC (.adr Z.C_BadWeb)) wNil))) wNil))))))
    (wSeq (wSet 1 (wOp oCatL (wVar 1) (wLst (wCons (wCB (zIsiE K) (wCons (wVar 0) (wCons (wC (.adr Z.C_NoGood)) wNil))) (wCons (wCB (zIsiE K) (wCons (wVar 0) (wCons (wC (.adr Z.C_BadShare)) wNil))) (wCons (wCB (zIsiE K) (wCons (wVar 0) (wCons (wC (.adr Z.C_BadDeed)) wNil))) wNil))))))
    (wSeq (wSet 1 (wOp oCatL (wVar 1) (wLst (wCons (wCB (zIsiE K) (wCons (wVar 0) (wCons (wC (.adr Z.C_Short)) wNil))) (wCons (wCB (zIsiE K) (wCons (wVar 0) (wCons (wC (.adr Z.C_ByZero)) wNil))) (wCons (wCB (zIsiE K) (wCons (wVar 0) (wCons (wC (.adr Z.C_BadText)) wNil))) wNil))))))
    (wSeq (wSet 1 (wOp oCatL (wVar 1) (wLst (wCons (wCB (zIsiE K) (wCons (wVar 0) (wCons (wC (.adr Z.C_BadRange)) wNil))) (wCons (wCB (zIsiE K) (wCons (wVar 0) (wCons (wC (.adr Z.C_Lacking)) wNil))) (wCons (wCB (zIsiE K) (wCons (wVar 0) (wCons (wC (.adr Z.C_BadRoute)) wNil))) wNil))))))
    (wSeq (wSet 1 (wOp oCatL (wVar 1) (wLst (wCons (wCB (zIsiE K) (wCons (wVar 0) (wCons (wC (.adr Z.C_TooMuch)) wNil))) (wCons (wCB (zIsiE K) (wCons (wVar 0) (wCons (wC (.adr Z.C_UnlikeFees)) wNil))) (wCons (wCB (zIsiE K) (wCons (wVar 0) (wCons (wC (.adr Z.C_BadPrices)) wNil))) wNil))))))
    (wSeq (wSet 1 (wOp oCatL (wVar 1) (wLst (wCons (wCB (zIsiE K) (wCons (wVar 0) (wCons (wC (.adr Z.C_BadSplit)) wNil))) (wCons (wCB (zIsiE K) (wCons (wVar 0) (wCons (wC (.adr Z.C_BadRing)) wNil))) (wCons (wCB (zIsiE K) (wCons (wVar 0) (wCons (wC (.adr Z.C_NothingToUndo)) wNil))) wNil))))))
    (wSeq (wSet 1 (wOp oCatL (wVar 1) (wLst (wCons (wCB (zIsiE K) (wCons (wVar 0) (wCons (wC (.adr Z.C_NothingToRedo)) wNil))) (wCons (wCB (zIsiE K) (wCons (wVar 0) (wCons (wC (.adr Z.C_BadLine)) wNil))) wNil)))))
    (wRet (wCB zLen (wCons (wFz (wLc (wItV 1) (wgName 2) (wTru (wVar 2)) (wVar 2) [2])) wNil)))))))))))))
def q_l_kinds (K : PySem.W.Frag) (Z : Ad) : Fn := fnOf 1 2 (w_l_kinds K Z)
theorem ok_l_kinds (T : Txt K mg Z) : FnG P w K mg base (L2.CX P w) 1 Z.f_l_kinds Z.d_l_kinds ["_law_e"] (spF K 1 (q_l_kinds K Z)) :=
  (def_ok T.F_l_kinds (u := w_l_kinds K Z) sc_l_kinds rfl rfl fun cdv A outer s H E hr =>
    (ss_cons (s_set 1 sc_l_kinds.nd (x_lst (xa_cons (x_callB b_isiE T.N_isinstance rfl (xa_cons (x_var 0) (xa_cons (x_gl T.G_BadNumber) xa_nil))) (xa_cons (x_callB b_isiE T.N_isinstance rfl (xa_cons (x_var 0) (xa_cons (x_gl T.G_BadSize) xa_nil))) (xa_cons (x_callB b_isiE T.N_isinstance rfl (xa_cons (x_var 0) (xa_cons (x_gl T.G_BadRoot) xa_nil))) xa_nil)))))
    (ss_cons (s_set 1 sc_l_kinds.nd (x_bin o_catL (x_var 1) (x_lst (xa_cons (x_callB b_isiE T.N_isinstance rfl (xa_cons (x_var 0) (xa_cons (x_gl T.G_BadFee) xa_nil))) (xa_cons (x_callB b_isiE T.N_isinstance rfl (xa_cons (x_var 0) (xa_cons (x_gl T.G_BadGood) xa_nil))) (xa_cons (x_callB b_isiE T.N_isinstance rfl (xa_cons (x_var 0) (xa_cons (x_gl T.G_BadAmount) xa_nil))) xa_nil))))))
    (ss_cons (s_set 1 sc_l_kinds.nd (x_bin o_catL (x_var 1) (x_lst (xa_cons (x_callB b_isiE T.N_isinstance rfl (xa_cons (x_var 0) (xa_cons (x_gl T.G_NoWay) xa_nil))) (xa_cons (x_callB b_isiE T.N_isinstance rfl (xa_cons (x_var 0) (xa_cons (x_gl T.G_BadName) xa_nil))) (xa_cons (x_callB b_isiE T.N_isinstance rfl (xa_cons (x_var 0) (xa_cons (x_gl T.G_InUse) xa_nil))) xa_nil))))))
    (ss_cons (s_set 1 sc_l_kinds.nd (x_bin o_catL (x_var 1) (x_lst (xa_cons (x_callB b_isiE T.N_isinstance rfl (xa_cons (x_var 0) (xa_cons (x_gl T.G_NoPosition) xa_nil))) (xa_cons (x_callB b_isiE T.N_isinstance rfl (xa_cons (x_var 0) (xa_cons (x_gl T.G_NoPool) xa_nil))) (xa_cons (x_callB b_isiE T.N_isinstance rfl (xa_cons (x_var 0) (xa_cons (x_gl T.G_BadWeb) xa_nil))) xa_nil))))))
    (ss_cons (s_set 1 sc_l_kinds.nd (x_bin o_catL (x_var 1) (x_lst (xa_cons (x_callB b_isiE T.N_isinstance rfl (xa_cons (x_var 0) (xa_cons (x_gl T.G_NoGood) xa_nil))) (xa_cons (x_callB b_isiE T.N_isinstance rfl (xa_cons (x_var 0) (xa_cons (x_gl T.G_BadShare) xa_nil))) (xa_cons (x_callB b_isiE T.N_isinstance rfl (xa_cons (x_var 0) (xa_cons (x_gl T.G_BadDeed) xa_nil))) xa_nil))))))
    (ss_cons (s_set 1 sc_l_kinds.nd (x_bin o_catL (x_var 1) (x_lst (xa_cons (x_callB b_isiE T.N_isinstance rfl (xa_cons (x_var 0) (xa_cons (x_gl T.G_Short) xa_nil))) (xa_cons (x_callB b_isiE T.N_isinstance rfl (xa_cons (x_var 0) (xa_cons (x_gl T.G_ByZero) xa_nil))) (xa_cons (x_callB b_isiE T.N_isinstance rfl (xa_cons (x_var 0) (xa_cons (x_gl T.G_BadText) xa_nil))) xa_nil))))))
    (ss_cons (s_set 1 sc_l_kinds.nd (x_bin o_catL (x_var 1) (x_lst (xa_cons (x_callB b_isiE T.N_isinstance rfl (xa_cons (x_var 0) (xa_cons (x_gl T.G_BadRange) xa_nil))) (xa_cons (x_callB b_isiE T.N_isinstance rfl (xa_cons (x_var 0) (xa_cons (x_gl T.G_Lacking) xa_nil))) (xa_cons (x_callB b_isiE T.N_isinstance rfl (xa_cons (x_var 0) (xa_cons (x_gl T.G_BadRoute) xa_nil))) xa_nil))))))
    (ss_cons (s_set 1 sc_l_kinds.nd (x_bin o_catL (x_var 1) (x_lst (xa_cons (x_callB b_isiE T.N_isinstance rfl (xa_cons (x_var 0) (xa_cons (x_gl T.G_TooMuch) xa_nil))) (xa_cons (x_callB b_isiE T.N_isinstance rfl (xa_cons (x_var 0) (xa_cons (x_gl T.G_UnlikeFees) xa_nil))) (xa_cons (x_callB b_isiE T.N_isinstance rfl (xa_cons (x_var 0) (xa_cons (x_gl T.G_BadPrices) xa_nil))) xa_nil))))))
    (ss_cons (s_set 1 sc_l_kinds.nd (x_bin o_catL (x_var 1) (x_lst (xa_cons (x_callB b_isiE T.N_isinstance rfl (xa_cons (x_var 0) (xa_cons (x_gl T.G_BadSplit) xa_nil))) (xa_cons (x_callB b_isiE T.N_isinstance rfl (xa_cons (x_var 0) (xa_cons (x_gl T.G_BadRing) xa_nil))) (xa_cons (x_callB b_isiE T.N_isinstance rfl (xa_cons (x_var 0) (xa_cons (x_gl T.G_NothingToUndo) xa_nil))) xa_nil))))))
    (ss_cons (s_set 1 sc_l_kinds.nd (x_bin o_catL (x_var 1) (x_lst (xa_cons (x_callB b_isiE T.N_isinstance rfl (xa_cons (x_var 0) (xa_cons (x_gl T.G_NothingToRedo) xa_nil))) (xa_cons (x_callB b_isiE T.N_isinstance rfl (xa_cons (x_var 0) (xa_cons (x_gl T.G_BadLine) xa_nil))) xa_nil)))))
    (ss_one (s_ret (x_callB b_len T.N_len rfl (xa_cons (x_fz (xl_lc (own := [("_law_bit", 2)]) rfl sc_l_kinds.nd (xi_var 1) (blk_of (N := ["_law_e", "_law_found", "_law_bit"]) (sc := defScope s_l_kinds) rfl rfl ⟨rfl, by decide +kernel, by decide +kernel, by decide +kernel, by decide +kernel⟩) (by decide) (fun s H C cl fp => (xg_name 2 sc_l_kinds.nd)) (fun s H C cl fp => (x_pt1 (x_tru (x_var 2)))) (fun s H C cl fp => (x_var 2)))) xa_nil)))))))))))))))
def w_l_bases (K : PySem.W.Frag) (Z : Ad) : Ws := (wSeq (wSet 0 (wLst (wCons (wErr Z.C_BadNumber (wC (.str "x"))) (wCons (wErr Z.C_BadSize (wC (.str "x"))) (wCons (wErr Z.C_BadRoot (wC (.str "x"))) (wCons (wErr Z.C_BadFee (wC (.str "x"))) (wCons (wErr Z.C_BadGood (wC (.str "x"))) (wCons (wErr Z.C_BadAmount (wC (.str "x"))) wNil))))))))
    (wSeq (wSet 0 (wOp oCatL (wVar 0) (wLst (wCons (wErr Z.C_NoWay (wC (.str "x"))) (wCons (wErr Z.C_BadName (wC (.str "x"))) (wCons (wErr Z.C_InUse (wC (.str "x"))) (wCons (wErr Z.C_NoPosition (wC (.str "x"))) (wCons (wErr Z.C_NoPool (wC (.str "x"))) (wCons (wErr Z.C_BadWeb (wC (.str "x"))) wNil)))))))))
    (wSeq (wSet 0 (wOp oCatL (wVar 0) (wLst (wCons (wErr Z.C_NoGood (wC (.str "x"))) (wCons (wErr Z.C_BadShare (wC (.str "x"))) (wCons (wErr Z.C_BadDeed (wC (.str "x"))) (wCons (wErr Z.C_Short (wC (.str "x"))) (wCons (wErr0 Z.C_ByZero) (wCons (wErr0 Z.C_BadText) wNil)))))))))
    (wSeq (wSet 0 (wOp oCatL (wVar 0) (wLst (wCons (wErr0 Z.C_BadRange) (wCons (wErr0 Z.C_Lacking) (wCons (wErr0 Z.C_BadRoute) (wCons (wErr0 Z.C_TooMuch) (wCons (wErr0 Z.C_UnlikeFees) (wCons (wErr0 Z.C_BadPrices) wNil)))))))))
    (wSeq (wSet 0 (wOp oCatL (wVar 0) (wLst (wCons (wErr0 Z.C_BadSplit) (wCons (wErr0 Z.C_BadRing) (wCons (wErr0 Z.C_NothingToUndo) (wCons (wErr0 Z.C_NothingToRedo) (wCons (wErr Z.C_BadLine (wC (.int 1))) wNil))))))))
    (wSeq (wSetF 1 (wLc (wItV 0) (wgName 2) (wOrT (wNotT (wTru (wCB (zIsiE K) (wCons (wVar 2) (wCons (wC (.adr Z.C_PoolError)) wNil))))) (wNotT (wTru (wCB (zIsiE K) (wCons (wVar 2) (wCons (wC (.ty "ValueError")) wNil)))))) wNo [2]))
    (wRet (wAnd (wOp (oEqD) (wVar 1) (wLst wNil)) (wOp (oEqD) (wFz (wLc (wItV 0) (wgName 2) (wTst (wOp (oNeD) (wCall (q_l_kinds K Z) [] (wCons (wVar 2) wNil)) (wC (.int 1)))) wNo [2])) (wLst wNil))))))))))
def q_l_bases (K : PySem.W.Frag) (Z : Ad) : Fn := fnOf 0 3 (w_l_bases K Z)
theorem ok_l_bases (T : Txt K mg Z) : FnG P w K mg base (L2.CX P w) 3 Z.f_l_bases Z.d_l_bases [] (spF K 0 (q_l_bases K Z)) :=
  (def_ok T.F_l_bases (u := w_l_bases K Z) sc_l_bases rfl rfl fun cdv A outer s H E hr =>
    (ss_cons (s_set 0 sc_l_bases.nd (x_lst (xa_cons (x_err1 T.E1_BadNumber (xok_BadNumber_init (P := P) (w := w) (base := base) T) (hr.mono (by decide)) T.B_BadNumber_init x_str) (xa_cons (x_err1 T.E1_BadSize (xok_BadSize_init (P := P) (w := w) (base := base) T) (hr.mono (by decide)) T.B_BadSize_init x_str) (xa_cons (x_err1 T.E1_BadRoot (xok_BadRoot_init (P := P) (w := w) (base := base) T) (hr.mono (by decide)) T.B_BadRoot_init x_str) (xa_cons (x_err1 T.E1_BadFee (xok_BadFee_init (P := P) (w := w) (base := base) T) (hr.mono (by decide)) T.B_BadFee_init x_str) (xa_cons (x_err1 T.E1_BadGood (xok_BadGood_init (P := P) (w := w) (base := base) T) (hr.mono (by decide)) T.B_BadGood_init x_str) (xa_cons (x_err1 T.E1_BadAmount (xok_BadAmount_init (P := P) (w := w) (base := base) T) (hr.mono (by decide)) T.B_BadAmount_init x_str) xa_nil))))))))
    (ss_cons (s_set 0 sc_l_bases.nd (x_bin o_catL (x_var 0) (x_lst (xa_cons (x_err1 T.E1_NoWay (xok_NoWay_init (P := P) (w := w) (base := base) T) (hr.mono (by decide)) T.B_NoWay_init x_str) (xa_cons (x_err1 T.E1_BadName (xok_BadName_init (P := P) (w := w) (base := base) T) (hr.mono (by decide)) T.B_BadName_init x_str) (xa_cons (x_err1 T.E1_InUse (xok_InUse_init (P := P) (w := w) (base := base) T) (hr.mono (by decide)) T.B_InUse_init x_str) (xa_cons (x_err1 T.E1_NoPosition (xok_NoPosition_init (P := P) (w := w) (base := base) T) (hr.mono (by decide)) T.B_NoPosition_init x_str) (xa_cons (x_err1 T.E1_NoPool (xok_NoPool_init (P := P) (w := w) (base := base) T) (hr.mono (by decide)) T.B_NoPool_init x_str) (xa_cons (x_err1 T.E1_BadWeb (xok_BadWeb_init (P := P) (w := w) (base := base) T) (hr.mono (by decide)) T.B_BadWeb_init x_str) xa_nil)))))))))
    (ss_cons (s_set 0 sc_l_bases.nd (x_bin o_catL (x_var 0) (x_lst (xa_cons (x_err1 T.E1_NoGood (xok_NoGood_init (P := P) (w := w) (base := base) T) (hr.mono (by decide)) T.B_NoGood_init x_str) (xa_cons (x_err1 T.E1_BadShare (xok_BadShare_init (P := P) (w := w) (base := base) T) (hr.mono (by decide)) T.B_BadShare_init x_str) (xa_cons (x_err1 T.E1_BadDeed (xok_BadDeed_init (P := P) (w := w) (base := base) T) (hr.mono (by decide)) T.B_BadDeed_init x_str) (xa_cons (x_err1 T.E1_Short (xok_Short_init (P := P) (w := w) (base := base) T) (hr.mono (by decide)) T.B_Short_init x_str) (xa_cons (x_err0 T.E0_ByZero) (xa_cons (x_err0 T.E0_BadText) xa_nil)))))))))
    (ss_cons (s_set 0 sc_l_bases.nd (x_bin o_catL (x_var 0) (x_lst (xa_cons (x_err0 T.E0_BadRange) (xa_cons (x_err0 T.E0_Lacking) (xa_cons (x_err0 T.E0_BadRoute) (xa_cons (x_err0 T.E0_TooMuch) (xa_cons (x_err0 T.E0_UnlikeFees) (xa_cons (x_err0 T.E0_BadPrices) xa_nil)))))))))
    (ss_cons (s_set 0 sc_l_bases.nd (x_bin o_catL (x_var 0) (x_lst (xa_cons (x_err0 T.E0_BadSplit) (xa_cons (x_err0 T.E0_BadRing) (xa_cons (x_err0 T.E0_NothingToUndo) (xa_cons (x_err0 T.E0_NothingToRedo) (xa_cons (x_err1 T.E1_BadLine (xok_BadLine_init (P := P) (w := w) (base := base) T) (hr.mono (by decide)) T.B_BadLine_init x_int) xa_nil))))))))
    (ss_cons (s_setLcF 1 (own := [("_law_e", 2)]) rfl sc_l_bases.nd (xi_var 0) (blk_of (N := ["_law_made", "_law_bad", "_law_e"]) (sc := defScope s_l_bases) rfl rfl ⟨rfl, by decide +kernel, by decide +kernel, by decide +kernel, by decide +kernel⟩) (by decide) (fun s H C cl fp => (xg_name 2 sc_l_bases.nd)) (fun s H C cl fp => (x_pt1 (x_orT (x_notT (x_tru (x_callB b_isiE T.N_isinstance rfl (xa_cons (x_var 2) (xa_cons (x_gl T.G_PoolError) xa_nil))))) (x_or1 (x_notT (x_tru (x_callB b_isiE T.N_isinstance rfl (xa_cons (x_var 2) (xa_cons (x_ty T.N_ValueError rfl) xa_nil))))))).pt)) (fun s H C cl fp => x_off) (hsw := by rfl))
    (ss_one (s_ret (x_and (x_cmp (o_eqU hr.r.units) (x_var 1) (x_lst xa_nil) (nomark _)) (x_one (x_cmp (o_eqU hr.r.units) (x_fz (xl_lc (own := [("_law_e", 2)]) rfl sc_l_bases.nd (xi_var 0) (blk_of (N := ["_law_made", "_law_bad", "_law_e"]) (sc := defScope s_l_bases) rfl rfl ⟨rfl, by decide +kernel, by decide +kernel, by decide +kernel, by decide +kernel⟩) (by decide) (fun s H C cl fp => (xg_name 2 sc_l_bases.nd)) (fun s H C cl fp => (x_pt1 (x_tst (o_neU hr.r.units) (x_call (ok_l_kinds (P := P) (w := w) (base := base) T) (hr.mono (by decide)) T.G_l_kinds T.F_l_kinds.kp T.B_l_kinds .nil hdd0 (takes0) hf_of (xa_cons (x_var 2) xa_nil)) x_int (nomark _)))) (fun s H C cl fp => x_off))) (x_lst xa_nil) (nomark _)))))))))))))
def w_l_law (K : PySem.W.Frag) (Z : Ad) : Ws := (wSeq (wSetL 1 (wCallL (q_l_box K Z) [] (wCons (wVar 0) (wCons (wC (.int 0)) wNil))))
    (wSeq (wSet 2 (wOp oIx (wLst (wCons (wC (.str "p")) (wCons (wC (.int 0)) (wCons (wC .non) (wCons (wUn (fun d P => ∃ i, d = .int i ∧ P (.int (-i))) (wC (.int 3))) (wCons (wTup (wCons (wC (.int 1)) (wCons (wC (.int 2)) wNil))) (wCons (wLst (wCons (wC (.str "x")) wNil)) (wCons (wC (.bl true)) wNil)))))))) (wCallB 1 (q_l_take K Z) [] (wCons (wC (.int 7)) wNil))))
    (wSeq (wSet 3 (wOp oIx (wLst (wCons (wDk1 "k" 1) (wCons (wOp (oI CPowB fun i j => .int (i ^ j.toNat)) (wC (.int 10)) (wC (.int 30))) (wCons (wC (.str "")) (wCons (wTup (wCons (wC (.str "q")) wNil)) (wCons (wC (.bl false)) wNil)))))) (wCallB 1 (q_l_take K Z) [] (wCons (wC (.int 5)) wNil))))
    (wSeq (wSet 4 (wLst (wCons (wVar 2) (wCons (wVar 3) (wCons (wVar 2) (wCons (wVar 3) (wCons (wVar 2) wNil)))))))
    (wSeq (wSet 4 (wOp oCatL (wVar 4) (wLst (wCons (wVar 3) (wCons (wVar 2) (wCons (wVar 3) (wCons (wVar 2) (wCons (wVar 3) wNil))))))))
    (wSeq (wSet 4 (wOp oCatL (wVar 4) (wLst (wCons (wVar 2) (wCons (wVar 3) (wCons (wVar 2) (wCons (wVar 3) (wCons (wVar 2) wNil))))))))
    (wSeq (wSet 4 (wOp oCatL (wVar 4) (wLst (wCons (wVar 3) wNil))))
    (wSeq (wSet 5 (wLst (wCons (wErrK (wCons (wVar 2) wNil)) (wCons (wErrK (wCons (wVar 3) wNil)) (wCons (wErrK (wCons (wVar 2) wNil)) (wCons (wErrK (wCons (wVar 3) wNil)) wNil))))))
    (wSeq (wSet 5 (wOp oCatL (wVar 5) (wLst (wCons (wErrK (wCons (wVar 2) wNil)) (wCons (wErrK (wCons (wVar 3) wNil)) (wCons (wErrK (wCons (wVar 2) wNil)) (wCons (wErrK (wCons (wVar 3) wNil)) wNil)))))))
    (wSeq (wSet 5 (wOp oCatL (wVar 5) (wLst (wCons (wErrK (wCons (wVar 2) wNil)) (wCons (wErrK (wCons (wVar 3) wNil)) (wCons (wErrK (wCons (wVar 2) wNil)) (wCons (wErrK (wCons (wVar 3) wNil)) wNil)))))))
    (wSeq (wSet 5 (wOp oCatL (wVar 5) (wLst (wCons (wErrK (wCons (wVar 2) wNil)) (wCons (wErrK (wCons (wVar 3) wNil)) (wCons (wErrK (wCons (wVar 2) wNil)) (wCons (wErrK (wCons (wVar 3) wNil)) wNil)))))))
    (wSeq (wFor (wRng1 (wCons (wC (.int 16)) wNil)) (wgName 6) (wSeq (wSet 7 (wIf (wTst (wOp (oEqD) (wOp (oI (fun _ j => j ≠ 0) fun i j => .int (i.fmod j)) (wVar 6) (wC (.int 2))) (wC (.int 0)))) (wVar 2) (wVar 3)))
    (wIfS (wOrT (wNotT (wTru (wCall (q_l_same K Z) [] (wCons (wOp oIx (wVar 4) (wVar 6)) (wCons (wVar 7) wNil))))) (wNotT (wTru (wCall (q_l_same K Z) [] (wCons (wOp oIx (wVar 5) (wVar 6)) (wCons (wVar 7) wNil)))))) wOff wNx)))
    (wSeq (wIfS (wOrT (wNotT (wTru (wCall (q_l_same K Z) [] (wCons (wVar 2) (wCons (wVar 2) wNil))))) (wNotT (wTru (wCall (q_l_same K Z) [] (wCons (wErrK (wCons (wVar 3) wNil)) (wCons (wVar 3) wNil)))))) wOff wNx)
    (wRet (wCall (q_l_bases K Z) [] wNil)))))))))))))))
def q_l_law (K : PySem.W.Frag) (Z : Ad) : Fn := fnOf 1 7 (w_l_law K Z)
theorem ok_l_law (T : Txt K mg Z) : FnG P w K mg base (L2.CX P w) 4 Z.f_l_law Z.d_l_law ["_law_script"] (spF K 1 (q_l_law K Z)) :=
  (def_ok T.F_l_law (u := w_l_law K Z) sc_l_law rfl rfl fun cdv A outer s H E hr =>
    (ss_cons (s_setL 1 sc_l_law.nd (xl_call (ok_l_box (P := P) (w := w) (base := base) T) (hr.mono (by decide)) T.G_l_box T.F_l_box.kp T.B_l_box .nil hdd0 (takes_of rfl rfl rfl rfl) hf_of (xa_cons (x_var 0) (xa_cons x_int xa_nil))))
    (ss_cons (s_set 2 sc_l_law.nd (x_ix (x_lst (xa_cons x_str (xa_cons x_int (xa_cons x_non (xa_cons (x_un o_neg x_int) (xa_cons (x_tup (xa_cons x_int (xa_cons x_int xa_nil))) (xa_cons (x_lst (xa_cons x_str xa_nil)) (xa_cons x_bl xa_nil)))))))) (x_callB' 1 (ok_l_take (P := P) (w := w) (base := base) T) (hr.mono (by decide)) T.G_l_take T.F_l_take.kp T.B_l_take .nil hdd0 (takes_of rfl rfl rfl rfl) hf_of (xa_cons x_int xa_nil)) (fun _ _ => rfl)))
    (ss_cons (s_set 3 sc_l_law.nd (x_ix (x_lst (xa_cons x_dk1 (xa_cons (x_bin o_pow x_int x_int) (xa_cons x_str (xa_cons (x_tup (xa_cons x_str xa_nil)) (xa_cons x_bl xa_nil)))))) (x_callB' 1 (ok_l_take (P := P) (w := w) (base := base) T) (hr.mono (by decide)) T.G_l_take T.F_l_take.kp T.B_l_take .nil hdd0 (takes_of rfl rfl rfl rfl) hf_of (xa_cons x_int xa_nil)) (fun _ _ => rfl)))
    (ss_cons (s_set 4 sc_l_law.nd (x_lst (xa_cons (x_errF T.E1_BadNumber (xok_BadNumber_init (P := P) (w := w) (base := base) T) (hr.mono (by decide)) T.B_BadNumber_init (x_var 2)) (xa_cons (x_errF T.E1_BadSize (xok_BadSize_init (P := P) (w := w) (base := base) T) (hr.mono (by decide)) T.B_BadSize_init (x_var 3)) (xa_cons (x_errF T.E1_BadRoot (xok_BadRoot_init (P := P) (w := w) (base := base) T) (hr.mono (by decide)) T.B_BadRoot_init (x_var 2)) (xa_cons (x_errF T.E1_BadFee (xok_BadFee_init (P := P) (w := w) (base := base) T) (hr.mono (by decide)) T.B_BadFee_init (x_var 3)) (xa_cons (x_errF T.E1_BadGood (xok_BadGood_init (P := P) (w := w) (base := base) T) (hr.mono (by decide)) T.B_BadGood_init (x_var 2)) xa_nil)))))))
    (ss_cons (s_set 4 sc_l_law.nd (x_bin o_catL (x_var 4) (x_lst (xa_cons (x_errF T.E1_BadAmount (xok_BadAmount_init (P := P) (w := w) (base := base) T) (hr.mono (by decide)) T.B_BadAmount_init (x_var 3)) (xa_cons (x_errF T.E1_NoWay (xok_NoWay_init (P := P) (w := w) (base := base) T) (hr.mono (by decide)) T.B_NoWay_init (x_var 2)) (xa_cons (x_errF T.E1_BadName (xok_BadName_init (P := P) (w := w) (base := base) T) (hr.mono (by decide)) T.B_BadName_init (x_var 3)) (xa_cons (x_errF T.E1_InUse (xok_InUse_init (P := P) (w := w) (base := base) T) (hr.mono (by decide)) T.B_InUse_init (x_var 2)) (xa_cons (x_errF T.E1_NoPosition (xok_NoPosition_init (P := P) (w := w) (base := base) T) (hr.mono (by decide)) T.B_NoPosition_init (x_var 3)) xa_nil))))))))
    (ss_cons (s_set 4 sc_l_law.nd (x_bin o_catL (x_var 4) (x_lst (xa_cons (x_errF T.E1_NoPool (xok_NoPool_init (P := P) (w := w) (base := base) T) (hr.mono (by decide)) T.B_NoPool_init (x_var 2)) (xa_cons (x_errF T.E1_BadWeb (xok_BadWeb_init (P := P) (w := w) (base := base) T) (hr.mono (by decide)) T.B_BadWeb_init (x_var 3)) (xa_cons (x_errF T.E1_NoGood (xok_NoGood_init (P := P) (w := w) (base := base) T) (hr.mono (by decide)) T.B_NoGood_init (x_var 2)) (xa_cons (x_errF T.E1_BadShare (xok_BadShare_init (P := P) (w := w) (base := base) T) (hr.mono (by decide)) T.B_BadShare_init (x_var 3)) (xa_cons (x_errF T.E1_BadDeed (xok_BadDeed_init (P := P) (w := w) (base := base) T) (hr.mono (by decide)) T.B_BadDeed_init (x_var 2)) xa_nil))))))))
    (ss_cons (s_set 4 sc_l_law.nd (x_bin o_catL (x_var 4) (x_lst (xa_cons (x_errF T.E1_Short (xok_Short_init (P := P) (w := w) (base := base) T) (hr.mono (by decide)) T.B_Short_init (x_var 3)) xa_nil))))
    (ss_cons (s_set 5 sc_l_law.nd (x_lst (xa_cons (x_errFK (ks := ["given"]) T.E1_BadNumber (xok_BadNumber_init (P := P) (w := w) (base := base) T) (hr.mono (by decide)) (kb_fun (m := 1) T.F_BadNumber_init pId_ok (fun _ _ _ _ _ _ us ws h1 h2 => match us, ws, h1, h2 with | [_], [_], _, _ => rfl)) rfl (xk_cons (x_var 2) xk_nil)) (xa_cons (x_errFK (ks := ["given"]) T.E1_BadSize (xok_BadSize_init (P := P) (w := w) (base := base) T) (hr.mono (by decide)) (kb_fun (m := 1) T.F_BadSize_init pId_ok (fun _ _ _ _ _ _ us ws h1 h2 => match us, ws, h1, h2 with | [_], [_], _, _ => rfl)) rfl (xk_cons (x_var 3) xk_nil)) (xa_cons (x_errFK (ks := ["given"]) T.E1_BadRoot (xok_BadRoot_init (P := P) (w := w) (base := base) T) (hr.mono (by decide)) (kb_fun (m := 1) T.F_BadRoot_init pId_ok (fun _ _ _ _ _ _ us ws h1 h2 => match us, ws, h1, h2 with | [_], [_], _, _ => rfl)) rfl (xk_cons (x_var 2) xk_nil)) (xa_cons (x_errFK (ks := ["given"]) T.E1_BadFee (xok_BadFee_init (P := P) (w := w) (base := base) T) (hr.mono (by decide)) (kb_fun (m := 1) T.F_BadFee_init pId_ok (fun _ _ _ _ _ _ us ws h1 h2 => match us, ws, h1, h2 with | [_], [_], _, _ => rfl)) rfl (xk_cons (x_var 3) xk_nil)) xa_nil))))))
    (ss_cons (s_set 5 sc_l_law.nd (x_bin o_catL (x_var 5) (x_lst (xa_cons (x_errFK (ks := ["given"]) T.E1_BadGood (xok_BadGood_init (P := P) (w := w) (base := base) T) (hr.mono (by decide)) (kb_fun (m := 1) T.F_BadGood_init pId_ok (fun _ _ _ _ _ _ us ws h1 h2 => match us, ws, h1, h2 with | [_], [_], _, _ => rfl)) rfl (xk_cons (x_var 2) xk_nil)) (xa_cons (x_errFK (ks := ["given"]) T.E1_BadAmount (xok_BadAmount_init (P := P) (w := w) (base := base) T) (hr.mono (by decide)) (kb_fun (m := 1) T.F_BadAmount_init pId_ok (fun _ _ _ _ _ _ us ws h1 h2 => match us, ws, h1, h2 with | [_], [_], _, _ => rfl)) rfl (xk_cons (x_var 3) xk_nil)) (xa_cons (x_errFK (ks := ["given"]) T.E1_NoWay (xok_NoWay_init (P := P) (w := w) (base := base) T) (hr.mono (by decide)) (kb_fun (m := 1) T.F_NoWay_init pId_ok (fun _ _ _ _ _ _ us ws h1 h2 => match us, ws, h1, h2 with | [_], [_], _, _ => rfl)) rfl (xk_cons (x_var 2) xk_nil)) (xa_cons (x_errFK (ks := ["given"]) T.E1_BadName (xok_BadName_init (P := P) (w := w) (base := base) T) (hr.mono (by decide)) (kb_fun (m := 1) T.F_BadName_init pId_ok (fun _ _ _ _ _ _ us ws h1 h2 => match us, ws, h1, h2 with | [_], [_], _, _ => rfl)) rfl (xk_cons (x_var 3) xk_nil)) xa_nil)))))))
    (ss_cons (s_set 5 sc_l_law.nd (x_bin o_catL (x_var 5) (x_lst (xa_cons (x_errFK (ks := ["given"]) T.E1_InUse (xok_InUse_init (P := P) (w := w) (base := base) T) (hr.mono (by decide)) (kb_fun (m := 1) T.F_InUse_init pId_ok (fun _ _ _ _ _ _ us ws h1 h2 => match us, ws, h1, h2 with | [_], [_], _, _ => rfl)) rfl (xk_cons (x_var 2) xk_nil)) (xa_cons (x_errFK (ks := ["given"]) T.E1_NoPosition (xok_NoPosition_init (P := P) (w := w) (base := base) T) (hr.mono (by decide)) (kb_fun (m := 1) T.F_NoPosition_init pId_ok (fun _ _ _ _ _ _ us ws h1 h2 => match us, ws, h1, h2 with | [_], [_], _, _ => rfl)) rfl (xk_cons (x_var 3) xk_nil)) (xa_cons (x_errFK (ks := ["given"]) T.E1_NoPool (xok_NoPool_init (P := P) (w := w) (base := base) T) (hr.mono (by decide)) (kb_fun (m := 1) T.F_NoPool_init pId_ok (fun _ _ _ _ _ _ us ws h1 h2 => match us, ws, h1, h2 with | [_], [_], _, _ => rfl)) rfl (xk_cons (x_var 2) xk_nil)) (xa_cons (x_errFK (ks := ["given"]) T.E1_BadWeb (xok_BadWeb_init (P := P) (w := w) (base := base) T) (hr.mono (by decide)) (kb_fun (m := 1) T.F_BadWeb_init pId_ok (fun _ _ _ _ _ _ us ws h1 h2 => match us, ws, h1, h2 with | [_], [_], _, _ => rfl)) rfl (xk_cons (x_var 3) xk_nil)) xa_nil)))))))
    (ss_cons (s_set 5 sc_l_law.nd (x_bin o_catL (x_var 5) (x_lst (xa_cons (x_errFK (ks := ["given"]) T.E1_NoGood (xok_NoGood_init (P := P) (w := w) (base := base) T) (hr.mono (by decide)) (kb_fun (m := 1) T.F_NoGood_init pId_ok (fun _ _ _ _ _ _ us ws h1 h2 => match us, ws, h1, h2 with | [_], [_], _, _ => rfl)) rfl (xk_cons (x_var 2) xk_nil)) (xa_cons (x_errFK (ks := ["given"]) T.E1_BadShare (xok_BadShare_init (P := P) (w := w) (base := base) T) (hr.mono (by decide)) (kb_fun (m := 1) T.F_BadShare_init pId_ok (fun _ _ _ _ _ _ us ws h1 h2 => match us, ws, h1, h2 with | [_], [_], _, _ => rfl)) rfl (xk_cons (x_var 3) xk_nil)) (xa_cons (x_errFK (ks := ["given"]) T.E1_BadDeed (xok_BadDeed_init (P := P) (w := w) (base := base) T) (hr.mono (by decide)) (kb_fun (m := 1) T.F_BadDeed_init pId_ok (fun _ _ _ _ _ _ us ws h1 h2 => match us, ws, h1, h2 with | [_], [_], _, _ => rfl)) rfl (xk_cons (x_var 2) xk_nil)) (xa_cons (x_errFK (ks := ["given"]) T.E1_Short (xok_Short_init (P := P) (w := w) (base := base) T) (hr.mono (by decide)) (kb_fun (m := 1) T.F_Short_init pId_ok (fun _ _ _ _ _ _ us ws h1 h2 => match us, ws, h1, h2 with | [_], [_], _, _ => rfl)) rfl (xk_cons (x_var 3) xk_nil)) xa_nil)))))))
    (ss_cons (s_for (passes_of rfl) rfl (xi_rng1 (xa_cons x_int xa_nil) T.N_range) (xg_name 6 sc_l_law.nd) (ss_cons (s_set 7 sc_l_law.nd (x_if (x_tst (o_eqU hr.r.units) (x_bin o_mod (x_var 6) x_int) x_int (nomark _)) (x_var 2) (x_var 3)))
    (ss_one (s_if (x_orT (x_notT (x_tru (x_call (ok_l_same (P := P) (w := w) (base := base) T) (hr.mono (by decide)) T.G_l_same T.F_l_same.kp T.B_l_same .nil hdd0 (takes_of rfl rfl rfl rfl) hf_of (xa_cons (x_ix (x_var 4) (x_var 6) (fun _ _ => rfl)) (xa_cons (x_var 7) xa_nil))))) (x_or1 (x_notT (x_tru (x_call (ok_l_same (P := P) (w := w) (base := base) T) (hr.mono (by decide)) T.G_l_same T.F_l_same.kp T.B_l_same .nil hdd0 (takes_of rfl rfl rfl rfl) hf_of (xa_cons (x_ix (x_var 5) (x_var 6) (fun _ _ => rfl)) (xa_cons (x_var 7) xa_nil))))))).pt ss_off ss_nil))))
    (ss_cons (s_if (x_orT (x_notT (x_tru (x_call (ok_l_same (P := P) (w := w) (base := base) T) (hr.mono (by decide)) T.G_l_same T.F_l_same.kp T.B_l_same .nil hdd0 (takes_of rfl rfl rfl rfl) hf_of (xa_cons (x_errF T.E1_BadLine (xok_BadLine_init (P := P) (w := w) (base := base) T) (hr.mono (by decide)) T.B_BadLine_init (x_var 2)) (xa_cons (x_var 2) xa_nil))))) (x_or1 (x_notT (x_tru (x_call (ok_l_same (P := P) (w := w) (base := base) T) (hr.mono (by decide)) T.G_l_same T.F_l_same.kp T.B_l_same .nil hdd0 (takes_of rfl rfl rfl rfl) hf_of (xa_cons (x_errFK (ks := ["line"]) T.E1_BadLine (xok_BadLine_init (P := P) (w := w) (base := base) T) (hr.mono (by decide)) (kb_fun (m := 1) T.F_BadLine_init pId_ok (fun _ _ _ _ _ _ us ws h1 h2 => match us, ws, h1, h2 with | [_], [_], _, _ => rfl)) rfl (xk_cons (x_var 3) xk_nil)) (xa_cons (x_var 3) xa_nil))))))).pt ss_off ss_nil)
    (ss_one (s_ret (x_call0 (ok_l_bases (P := P) (w := w) (base := base) T) (hr.mono (by decide)) T.G_l_bases T.F_l_bases.kp T.B_l_bases .nil hdd0 (takes_of rfl rfl rfl rfl) hf_of)))))))))))))))))
end
end K01

set_option Elab.async false
set_option linter.all false
set_option maxRecDepth 100000
set_option maxHeartbeats 0
namespace K01
open PySem PySem.Spec PyProof.Rows L2 L3
theorem facts {K : PySem.W.Frag} {h : Heap} {mg : Str → Option Value} (X : K.In h) (G : h.Ns mainGlobals mg) (c : SaysP cks fns K) : ∃ Z : Ad, Txt K mg Z ∧ Z.f_l_law = He.ga K "law" := by
  obtain ⟨d_l_law, F_l_law⟩ := c.def_ 0 (d := dp_l_law) rfl
  have F_l_law : FunD K "law" "law" (defArgs s_l_law) (defBody s_l_law) (defScope s_l_law) [] [] (He.ga K "law") d_l_law := F_l_law
  obtain ⟨d_l_box, F_l_box⟩ := c.def_ 1 (d := dp_l_box) rfl
  have F_l_box : FunD K "_law_box" "_law_box" (defArgs s_l_box) (defBody s_l_box) (defScope s_l_box) [] [] (He.ga K "_law_box") d_l_box := F_l_box
  obtain ⟨d_l_cell, F_l_cell⟩ := c.def_ 2 (d := dp_l_cell) rfl
  have F_l_cell : FunD K "_law_cell" "_law_cell" (defArgs s_l_cell) (defBody s_l_cell) (defScope s_l_cell) [] [] (He.ga K "_law_cell") d_l_cell := F_l_cell
  obtain ⟨d_l_take, F_l_take⟩ := c.def_ 3 (d := dp_l_take) rfl
  have F_l_take : FunD K "_law_take" "_law_take" (defArgs s_l_take) (defBody s_l_take) (defScope s_l_take) [] [] (He.ga K "_law_take") d_l_take := F_l_take
  obtain ⟨d_BadNumber_init, F_BadNumber_init⟩ := c.def_ 4 (d := dp_BadNumber_init) rfl
  have F_BadNumber_init : FunD K "__init__" "BadNumber.__init__" (defArgs s_BadNumber_init) (defBody s_BadNumber_init) (defScope s_BadNumber_init) [] [] (He.ma K (He.ga K "BadNumber") "__init__") d_BadNumber_init := F_BadNumber_init
  obtain ⟨d_BadSize_init, F_BadSize_init⟩ := c.def_ 5 (d := dp_BadSize_init) rfl
  have F_BadSize_init : FunD K "__init__" "BadSize.__init__" (defArgs s_BadSize_init) (defBody s_BadSize_init) (defScope s_BadSize_init) [] [] (He.ma K (He.ga K "BadSize") "__init__") d_BadSize_init := F_BadSize_init
  obtain ⟨d_BadRoot_init, F_BadRoot_init⟩ := c.def_ 6 (d := dp_BadRoot_init) rfl
  have F_BadRoot_init : FunD K "__init__" "BadRoot.__init__" (defArgs s_BadRoot_init) (defBody s_BadRoot_init) (defScope s_BadRoot_init) [] [] (He.ma K (He.ga K "BadRoot") "__init__") d_BadRoot_init := F_BadRoot_init
  obtain ⟨d_BadFee_init, F_BadFee_init⟩ := c.def_ 7 (d := dp_BadFee_init) rfl
  have F_BadFee_init : FunD K "__init__" "BadFee.__init__" (defArgs s_BadFee_init) (defBody s_BadFee_init) (defScope s_BadFee_init) [] [] (He.ma K (He.ga K "BadFee") "__init__") d_BadFee_init := F_BadFee_init
  obtain ⟨d_BadGood_init, F_BadGood_init⟩ := c.def_ 8 (d := dp_BadGood_init) rfl
  have F_BadGood_init : FunD K "__init__" "BadGood.__init__" (defArgs s_BadGood_init) (defBody s_BadGood_init) (defScope s_BadGood_init) [] [] (He.ma K (He.ga K "BadGood") "__init__") d_BadGood_init := F_BadGood_init
  obtain ⟨d_BadAmount_init, F_BadAmount_init⟩ := c.def_ 9 (d := dp_BadAmount_init) rfl
  have F_BadAmount_init : FunD K "__init__" "BadAmount.__init__" (defArgs s_BadAmount_init) (defBody s_BadAmount_init) (defScope s_BadAmount_init) [] [] (He.ma K (He.ga K "BadAmount") "__init__") d_BadAmount_init := F_BadAmount_init
  obtain ⟨d_NoWay_init, F_NoWay_init⟩ := c.def_ 10 (d := dp_NoWay_init) rfl
  have F_NoWay_init : FunD K "__init__" "NoWay.__init__" (defArgs s_NoWay_init) (defBody s_NoWay_init) (defScope s_NoWay_init) [] [] (He.ma K (He.ga K "NoWay") "__init__") d_NoWay_init := F_NoWay_init
  obtain ⟨d_BadName_init, F_BadName_init⟩ := c.def_ 11 (d := dp_BadName_init) rfl
  have F_BadName_init : FunD K "__init__" "BadName.__init__" (defArgs s_BadName_init) (defBody s_BadName_init) (defScope s_BadName_init) [] [] (He.ma K (He.ga K "BadName") "__init__") d_BadName_init := F_BadName_init
  obtain ⟨d_InUse_init, F_InUse_init⟩ := c.def_ 12 (d := dp_InUse_init) rfl
  have F_InUse_init : FunD K "__init__" "InUse.__init__" (defArgs s_InUse_init) (defBody s_InUse_init) (defScope s_InUse_init) [] [] (He.ma K (He.ga K "InUse") "__init__") d_InUse_init := F_InUse_init
  obtain ⟨d_NoPosition_init, F_NoPosition_init⟩ := c.def_ 13 (d := dp_NoPosition_init) rfl
  have F_NoPosition_init : FunD K "__init__" "NoPosition.__init__" (defArgs s_NoPosition_init) (defBody s_NoPosition_init) (defScope s_NoPosition_init) [] [] (He.ma K (He.ga K "NoPosition") "__init__") d_NoPosition_init := F_NoPosition_init
  obtain ⟨d_NoPool_init, F_NoPool_init⟩ := c.def_ 14 (d := dp_NoPool_init) rfl
  have F_NoPool_init : FunD K "__init__" "NoPool.__init__" (defArgs s_NoPool_init) (defBody s_NoPool_init) (defScope s_NoPool_init) [] [] (He.ma K (He.ga K "NoPool") "__init__") d_NoPool_init := F_NoPool_init
  obtain ⟨d_BadWeb_init, F_BadWeb_init⟩ := c.def_ 15 (d := dp_BadWeb_init) rfl
  have F_BadWeb_init : FunD K "__init__" "BadWeb.__init__" (defArgs s_BadWeb_init) (defBody s_BadWeb_init) (defScope s_BadWeb_init) [] [] (He.ma K (He.ga K "BadWeb") "__init__") d_BadWeb_init := F_BadWeb_init
  obtain ⟨d_NoGood_init, F_NoGood_init⟩ := c.def_ 16 (d := dp_NoGood_init) rfl
  have F_NoGood_init : FunD K "__init__" "NoGood.__init__" (defArgs s_NoGood_init) (defBody s_NoGood_init) (defScope s_NoGood_init) [] [] (He.ma K (He.ga K "NoGood") "__init__") d_NoGood_init := F_NoGood_init
  obtain ⟨d_BadShare_init, F_BadShare_init⟩ := c.def_ 17 (d := dp_BadShare_init) rfl
  have F_BadShare_init : FunD K "__init__" "BadShare.__init__" (defArgs s_BadShare_init) (defBody s_BadShare_init) (defScope s_BadShare_init) [] [] (He.ma K (He.ga K "BadShare") "__init__") d_BadShare_init := F_BadShare_init
  obtain ⟨d_BadDeed_init, F_BadDeed_init⟩ := c.def_ 18 (d := dp_BadDeed_init) rfl
  have F_BadDeed_init : FunD K "__init__" "BadDeed.__init__" (defArgs s_BadDeed_init) (defBody s_BadDeed_init) (defScope s_BadDeed_init) [] [] (He.ma K (He.ga K "BadDeed") "__init__") d_BadDeed_init := F_BadDeed_init
  obtain ⟨d_Short_init, F_Short_init⟩ := c.def_ 19 (d := dp_Short_init) rfl
  have F_Short_init : FunD K "__init__" "Short.__init__" (defArgs s_Short_init) (defBody s_Short_init) (defScope s_Short_init) [] [] (He.ma K (He.ga K "Short") "__init__") d_Short_init := F_Short_init
  obtain ⟨d_l_same, F_l_same⟩ := c.def_ 20 (d := dp_l_same) rfl
  have F_l_same : FunD K "_law_same" "_law_same" (defArgs s_l_same) (defBody s_l_same) (defScope s_l_same) [] [] (He.ga K "_law_same") d_l_same := F_l_same
  obtain ⟨d_BadLine_init, F_BadLine_init⟩ := c.def_ 21 (d := dp_BadLine_init) rfl
  have F_BadLine_init : FunD K "__init__" "BadLine.__init__" (defArgs s_BadLine_init) (defBody s_BadLine_init) (defScope s_BadLine_init) [] [] (He.ma K (He.ga K "BadLine") "__init__") d_BadLine_init := F_BadLine_init
  obtain ⟨d_l_bases, F_l_bases⟩ := c.def_ 22 (d := dp_l_bases) rfl
  have F_l_bases : FunD K "_law_bases" "_law_bases" (defArgs s_l_bases) (defBody s_l_bases) (defScope s_l_bases) [] [] (He.ga K "_law_bases") d_l_bases := F_l_bases
  obtain ⟨d_l_kinds, F_l_kinds⟩ := c.def_ 23 (d := dp_l_kinds) rfl
  have F_l_kinds : FunD K "_law_kinds" "_law_kinds" (defArgs s_l_kinds) (defBody s_l_kinds) (defScope s_l_kinds) [] [] (He.ga K "_law_kinds") d_l_kinds := F_l_kinds
  refine ⟨{ f_l_law := He.ga K "law", d_l_law := d_l_law, f_l_box := He.ga K "_law_box", d_l_box := d_l_box, f_l_cell := He.ga K "_law_cell", d_l_cell := d_l_cell, f_l_take := He.ga K "_law_take", d_l_take := d_l_take, C_BadNumber := He.ga K "BadNumber", f_BadNumber_init := He.ma K (He.ga K "BadNumber") "__init__", d_BadNumber_init := d_BadNumber_init, C_BadSize := He.ga K "BadSize", f_BadSize_init := He.ma K (He.ga K "BadSize") "__init__", d_BadSize_init := d_BadSize_init, C_BadRoot := He.ga K "BadRoot", f_BadRoot_init := He.ma K (He.ga K "BadRoot") "__init__", d_BadRoot_init := d_BadRoot_init, C_BadFee := He.ga K "BadFee", f_BadFee_init := He.ma K (He.ga K "BadFee") "__init__", d_BadFee_init := d_BadFee_init, C_BadGood := He.ga K "BadGood", f_BadGood_init := He.ma K (He.ga K "BadGood") "__init__", d_BadGood_init := d_BadGood_init, C_BadAmount := He.ga K "BadAmount", f_BadAmount_init := He.ma K (He.ga K "BadAmount") "__init__", d_BadAmount_init := d_BadAmount_init, C_NoWay := He.ga K "NoWay", f_NoWay_init := He.ma K (He.ga K "NoWay") "__init__", d_NoWay_init := d_NoWay_init, C_BadName := He.ga K "BadName", f_BadName_init := He.ma K (He.ga K "BadName") "__init__", d_BadName_init := d_BadName_init, C_InUse := He.ga K "InUse", f_InUse_init := He.ma K (He.ga K "InUse") "__init__", d_InUse_init := d_InUse_init, C_NoPosition := He.ga K "NoPosition", f_NoPosition_init := He.ma K (He.ga K "NoPosition") "__init__", d_NoPosition_init := d_NoPosition_init, C_NoPool := He.ga K "NoPool", f_NoPool_init := He.ma K (He.ga K "NoPool") "__init__", d_NoPool_init := d_NoPool_init, C_BadWeb := He.ga K "BadWeb", f_BadWeb_init := He.ma K (He.ga K "BadWeb") "__init__", d_BadWeb_init := d_BadWeb_init, C_NoGood := He.ga K "NoGood", f_NoGood_init := He.ma K (He.ga K "NoGood") "__init__", d_NoGood_init := d_NoGood_init, C_BadShare := He.ga K "BadShare", f_BadShare_init := He.ma K (He.ga K "BadShare") "__init__", d_BadShare_init := d_BadShare_init, C_BadDeed := He.ga K "BadDeed", f_BadDeed_init := He.ma K (He.ga K "BadDeed") "__init__", d_BadDeed_init := d_BadDeed_init, C_Short := He.ga K "Short", f_Short_init := He.ma K (He.ga K "Short") "__init__", d_Short_init := d_Short_init, f_l_same := He.ga K "_law_same", d_l_same := d_l_same, C_BadLine := He.ga K "BadLine", f_BadLine_init := He.ma K (He.ga K "BadLine") "__init__", d_BadLine_init := d_BadLine_init, f_l_bases := He.ga K "_law_bases", d_l_bases := d_l_bases, C_ByZero := He.ga K "ByZero", C_BadText := He.ga K "BadText", C_BadRange := He.ga K "BadRange", C_Lacking := He.ga K "Lacking", C_BadRoute := He.ga K "BadRoute", C_TooMuch := He.ga K "TooMuch", C_UnlikeFees := He.ga K "UnlikeFees", C_BadPrices := He.ga K "BadPrices", C_BadSplit := He.ga K "BadSplit", C_BadRing := He.ga K "BadRing", C_NothingToUndo := He.ga K "NothingToUndo", C_NothingToRedo := He.ga K "NothingToRedo", C_PoolError := He.ga K "PoolError", f_l_kinds := He.ga K "_law_kinds", d_l_kinds := d_l_kinds }, ?_, rfl⟩
  exact {
    F_l_law := fun_of_D F_l_law,
    B_l_law := F_l_law.bindsN fun _ _ _ _ _ _ us hl => match us, hl with | [_], _ => rfl,
    F_l_box := fun_of_D F_l_box,
    B_l_box := F_l_box.bindsN fun _ _ _ _ _ _ us hl => match us, hl with | [_, _], _ => rfl,
    F_l_cell := fun_of_D F_l_cell,
    B_l_cell := F_l_cell.bindsN fun _ _ _ _ _ _ us hl => match us, hl with | [_, _], _ => rfl,
    N_len := He.free_ok X G (c.fact 0 (f := kFa (.free "len"))),
    G_l_cell := He.glo_ok X G (c.fact 1 (f := kFa (.glo "_law_cell"))),
    N_int := He.free_ok X G (c.fact 2 (f := kFa (.free "int"))),
    N_abs := He.free_ok X G (c.fact 3 (f := kFa (.free "abs"))),
    G_l_box := He.glo_ok X G (c.fact 4 (f := kFa (.glo "_law_box"))),
    F_l_take := fun_of_D F_l_take,
    B_l_take := F_l_take.bindsN fun _ _ _ _ _ _ us hl => match us, hl with | [_, _], _ => rfl,
    G_l_take := He.glo_ok X G (c.fact 5 (f := kFa (.glo "_law_take"))),
    F_BadNumber_init := fun_of_D F_BadNumber_init,
    B_BadNumber_init := F_BadNumber_init.bindsN fun _ _ _ _ _ _ us hl => match us, hl with | [_, _], _ => rfl,
    E1_BadNumber := er1_of X G (c.fact 6 (f := kEr1 "BadNumber" "given")) (c.fact 7 (f := kFa (.glo "BadNumber"))),
    F_BadSize_init := fun_of_D F_BadSize_init,
    B_BadSize_init := F_BadSize_init.bindsN fun _ _ _ _ _ _ us hl => match us, hl with | [_, _], _ => rfl,
    E1_BadSize := er1_of X G (c.fact 8 (f := kEr1 "BadSize" "given")) (c.fact 9 (f := kFa (.glo "BadSize"))),
    F_BadRoot_init := fun_of_D F_BadRoot_init,
    B_BadRoot_init := F_BadRoot_init.bindsN fun _ _ _ _ _ _ us hl => match us, hl with | [_, _], _ => rfl,
    E1_BadRoot := er1_of X G (c.fact 10 (f := kEr1 "BadRoot" "given")) (c.fact 11 (f := kFa (.glo "BadRoot"))),
    F_BadFee_init := fun_of_D F_BadFee_init,
    B_BadFee_init := F_BadFee_init.bindsN fun _ _ _ _ _ _ us hl => match us, hl with | [_, _], _ => rfl,
    E1_BadFee := er1_of X G (c.fact 12 (f := kEr1 "BadFee" "given")) (c.fact 13 (f := kFa (.glo "BadFee"))),
    F_BadGood_init := fun_of_D F_BadGood_init,
    B_BadGood_init := F_BadGood_init.bindsN fun _ _ _ _ _ _ us hl => match us, hl with | [_, _], _ => rfl,
    E1_BadGood := er1_of X G (c.fact 14 (f := kEr1 "BadGood" "given")) (c.fact 15 (f := kFa (.glo "BadGood"))),
    F_BadAmount_init := fun_of_D F_BadAmount_init,
    B_BadAmount_init := F_BadAmount_init.bindsN fun _ _ _ _ _ _ us hl => match us, hl with | [_, _], _ => rfl,
    E1_BadAmount := er1_of X G (c.fact 16 (f := kEr1 "BadAmount" "given")) (c.fact 17 (f := kFa (.glo "BadAmount"))),
    F_NoWay_init := fun_of_D F_NoWay_init,
    B_NoWay_init := F_NoWay_init.bindsN fun _ _ _ _ _ _ us hl => match us, hl with | [_, _], _ => rfl,
    E1_NoWay := er1_of X G (c.fact 18 (f := kEr1 "NoWay" "given")) (c.fact 19 (f := kFa (.glo "NoWay"))),
    F_BadName_init := fun_of_D F_BadName_init,
    B_BadName_init := F_BadName_init.bindsN fun _ _ _ _ _ _ us hl => match us, hl with | [_, _], _ => rfl,
    E1_BadName := er1_of X G (c.fact 20 (f := kEr1 "BadName" "given")) (c.fact 21 (f := kFa (.glo "BadName"))),
    F_InUse_init := fun_of_D F_InUse_init,
    B_InUse_init := F_InUse_init.bindsN fun _ _ _ _ _ _ us hl => match us, hl with | [_, _], _ => rfl,
    E1_InUse := er1_of X G (c.fact 22 (f := kEr1 "InUse" "given")) (c.fact 23 (f := kFa (.glo "InUse"))),
    F_NoPosition_init := fun_of_D F_NoPosition_init,
    B_NoPosition_init := F_NoPosition_init.bindsN fun _ _ _ _ _ _ us hl => match us, hl with | [_, _], _ => rfl,
    E1_NoPosition := er1_of X G (c.fact 24 (f := kEr1 "NoPosition" "given")) (c.fact 25 (f := kFa (.glo "NoPosition"))),
    F_NoPool_init := fun_of_D F_NoPool_init,
    B_NoPool_init := F_NoPool_init.bindsN fun _ _ _ _ _ _ us hl => match us, hl with | [_, _], _ => rfl,
    E1_NoPool := er1_of X G (c.fact 26 (f := kEr1 "NoPool" "given")) (c.fact 27 (f := kFa (.glo "NoPool"))),
    F_BadWeb_init := fun_of_D F_BadWeb_init,
    B_BadWeb_init := F_BadWeb_init.bindsN fun _ _ _ _ _ _ us hl => match us, hl with | [_, _], _ => rfl,
    E1_BadWeb := er1_of X G (c.fact 28 (f := kEr1 "BadWeb" "given")) (c.fact 29 (f := kFa (.glo "BadWeb"))),
    F_NoGood_init := fun_of_D F_NoGood_init,
    B_NoGood_init := F_NoGood_init.bindsN fun _ _ _ _ _ _ us hl => match us, hl with | [_, _], _ => rfl,
    E1_NoGood := er1_of X G (c.fact 30 (f := kEr1 "NoGood" "given")) (c.fact 31 (f := kFa (.glo "NoGood"))),
    F_BadShare_init := fun_of_D F_BadShare_init,
    B_BadShare_init := F_BadShare_init.bindsN fun _ _ _ _ _ _ us hl => match us, hl with | [_, _], _ => rfl,
    E1_BadShare := er1_of X G (c.fact 32 (f := kEr1 "BadShare" "given")) (c.fact 33 (f := kFa (.glo "BadShare"))),
    F_BadDeed_init := fun_of_D F_BadDeed_init,
    B_BadDeed_init := F_BadDeed_init.bindsN fun _ _ _ _ _ _ us hl => match us, hl with | [_, _], _ => rfl,
    E1_BadDeed := er1_of X G (c.fact 34 (f := kEr1 "BadDeed" "given")) (c.fact 35 (f := kFa (.glo "BadDeed"))),
    F_Short_init := fun_of_D F_Short_init,
    B_Short_init := F_Short_init.bindsN fun _ _ _ _ _ _ us hl => match us, hl with | [_, _], _ => rfl,
    E1_Short := er1_of X G (c.fact 36 (f := kEr1 "Short" "given")) (c.fact 37 (f := kFa (.glo "Short"))),
    N_range := He.free_ok X G (c.fact 38 (f := kFa (.free "range"))),
    F_l_same := fun_of_D F_l_same,
    B_l_same := F_l_same.bindsN fun _ _ _ _ _ _ us hl => match us, hl with | [_, _], _ => rfl,
    N_repr := He.free_ok X G (c.fact 39 (f := kFa (.free "repr"))),
    N_bool := He.free_ok X G (c.fact 40 (f := kFa (.free "bool"))),
    N_isinstance := He.free_ok X G (c.fact 41 (f := kFa (.free "isinstance"))),
    G_l_same := He.glo_ok X G (c.fact 42 (f := kFa (.glo "_law_same"))),
    F_BadLine_init := fun_of_D F_BadLine_init,
    B_BadLine_init := F_BadLine_init.bindsN fun _ _ _ _ _ _ us hl => match us, hl with | [_, _], _ => rfl,
    E1_BadLine := er1_of X G (c.fact 43 (f := kEr1 "BadLine" "line")) (c.fact 44 (f := kFa (.glo "BadLine"))),
    F_l_bases := fun_of_D F_l_bases,
    B_l_bases := F_l_bases.bindsN fun _ _ _ _ _ _ us hl => match us, hl with | [], _ => rfl,
    E0_ByZero := er0_of X G (c.fact 45 (f := kFa (.exc "ByZero"))) (c.fact 46 (f := kFa (.glo "ByZero"))),
    E0_BadText := er0_of X G (c.fact 47 (f := kFa (.exc "BadText"))) (c.fact 48 (f := kFa (.glo "BadText"))),
    E0_BadRange := er0_of X G (c.fact 49 (f := kFa (.exc "BadRange"))) (c.fact 50 (f := kFa (.glo "BadRange"))),
    E0_Lacking := er0_of X G (c.fact 51 (f := kFa (.exc "Lacking"))) (c.fact 52 (f := kFa (.glo "Lacking"))),
    E0_BadRoute := er0_of X G (c.fact 53 (f := kFa (.exc "BadRoute"))) (c.fact 54 (f := kFa (.glo "BadRoute"))),
    E0_TooMuch := er0_of X G (c.fact 55 (f := kFa (.exc "TooMuch"))) (c.fact 56 (f := kFa (.glo "TooMuch"))),
    E0_UnlikeFees := er0_of X G (c.fact 57 (f := kFa (.exc "UnlikeFees"))) (c.fact 58 (f := kFa (.glo "UnlikeFees"))),
    E0_BadPrices := er0_of X G (c.fact 59 (f := kFa (.exc "BadPrices"))) (c.fact 60 (f := kFa (.glo "BadPrices"))),
    E0_BadSplit := er0_of X G (c.fact 61 (f := kFa (.exc "BadSplit"))) (c.fact 62 (f := kFa (.glo "BadSplit"))),
    E0_BadRing := er0_of X G (c.fact 63 (f := kFa (.exc "BadRing"))) (c.fact 64 (f := kFa (.glo "BadRing"))),
    E0_NothingToUndo := er0_of X G (c.fact 65 (f := kFa (.exc "NothingToUndo"))) (c.fact 66 (f := kFa (.glo "NothingToUndo"))),
    E0_NothingToRedo := er0_of X G (c.fact 67 (f := kFa (.exc "NothingToRedo"))) (c.fact 68 (f := kFa (.glo "NothingToRedo"))),
    G_PoolError := He.glo_ok X G (c.fact 69 (f := kFa (.glo "PoolError"))),
    N_ValueError := He.free_ok X G (c.fact 70 (f := kFa (.free "ValueError"))),
    F_l_kinds := fun_of_D F_l_kinds,
    B_l_kinds := F_l_kinds.bindsN fun _ _ _ _ _ _ us hl => match us, hl with | [_], _ => rfl,
    G_BadNumber := He.glo_ok X G (c.fact 7 (f := kFa (.glo "BadNumber"))),
    G_BadSize := He.glo_ok X G (c.fact 9 (f := kFa (.glo "BadSize"))),
    G_BadRoot := He.glo_ok X G (c.fact 11 (f := kFa (.glo "BadRoot"))),
    G_BadFee := He.glo_ok X G (c.fact 13 (f := kFa (.glo "BadFee"))),
    G_BadGood := He.glo_ok X G (c.fact 15 (f := kFa (.glo "BadGood"))),
    G_BadAmount := He.glo_ok X G (c.fact 17 (f := kFa (.glo "BadAmount"))),
    G_NoWay := He.glo_ok X G (c.fact 19 (f := kFa (.glo "NoWay"))),
    G_BadName := He.glo_ok X G (c.fact 21 (f := kFa (.glo "BadName"))),
    G_InUse := He.glo_ok X G (c.fact 23 (f := kFa (.glo "InUse"))),
    G_NoPosition := He.glo_ok X G (c.fact 25 (f := kFa (.glo "NoPosition"))),
    G_NoPool := He.glo_ok X G (c.fact 27 (f := kFa (.glo "NoPool"))),
    G_BadWeb := He.glo_ok X G (c.fact 29 (f := kFa (.glo "BadWeb"))),
    G_NoGood := He.glo_ok X G (c.fact 31 (f := kFa (.glo "NoGood"))),
    G_BadShare := He.glo_ok X G (c.fact 33 (f := kFa (.glo "BadShare"))),
    G_BadDeed := He.glo_ok X G (c.fact 35 (f := kFa (.glo "BadDeed"))),
    G_Short := He.glo_ok X G (c.fact 37 (f := kFa (.glo "Short"))),
    G_ByZero := He.glo_ok X G (c.fact 46 (f := kFa (.glo "ByZero"))),
    G_BadText := He.glo_ok X G (c.fact 48 (f := kFa (.glo "BadText"))),
    G_BadRange := He.glo_ok X G (c.fact 50 (f := kFa (.glo "BadRange"))),
    G_Lacking := He.glo_ok X G (c.fact 52 (f := kFa (.glo "Lacking"))),
    G_BadRoute := He.glo_ok X G (c.fact 54 (f := kFa (.glo "BadRoute"))),
    G_TooMuch := He.glo_ok X G (c.fact 56 (f := kFa (.glo "TooMuch"))),
    G_UnlikeFees := He.glo_ok X G (c.fact 58 (f := kFa (.glo "UnlikeFees"))),
    G_BadPrices := He.glo_ok X G (c.fact 60 (f := kFa (.glo "BadPrices"))),
    G_BadSplit := He.glo_ok X G (c.fact 62 (f := kFa (.glo "BadSplit"))),
    G_BadRing := He.glo_ok X G (c.fact 64 (f := kFa (.glo "BadRing"))),
    G_NothingToUndo := He.glo_ok X G (c.fact 66 (f := kFa (.glo "NothingToUndo"))),
    G_NothingToRedo := He.glo_ok X G (c.fact 68 (f := kFa (.glo "NothingToRedo"))),
    G_BadLine := He.glo_ok X G (c.fact 44 (f := kFa (.glo "BadLine"))),
    G_l_kinds := He.glo_ok X G (c.fact 71 (f := kFa (.glo "_law_kinds"))),
    G_l_bases := He.glo_ok X G (c.fact 72 (f := kFa (.glo "_law_bases"))),
    G_l_law := He.glo_ok X G (c.fact 73 (f := kFa (.glo "law"))),
    kit_int_bool := kKit_ok (c.fact 74 (f := kKit (.t "int") (.t "bool") false)),
    kit_bool_bool := kKit_ok (c.fact 75 (f := kKit (.t "bool") (.t "bool") true)),
    kit_NoneType_bool := kKit_ok (c.fact 76 (f := kKit (.t "NoneType") (.t "bool") false)),
    kit_str_bool := kKit_ok (c.fact 77 (f := kKit (.t "str") (.t "bool") false)),
    kit_list_bool := kKit_ok (c.fact 78 (f := kKit (.t "list") (.t "bool") false)),
    kit_tuple_bool := kKit_ok (c.fact 79 (f := kKit (.t "tuple") (.t "bool") false)),
    kit_dict_bool := kKit_ok (c.fact 80 (f := kKit (.t "dict") (.t "bool") false)),
    ERS := kErs_ok (c.fact 81 (f := kErs ["BadNumber", "BadSize", "BadRoot", "BadFee", "BadGood", "BadAmount", "NoWay", "BadName", "InUse", "NoPosition", "NoPool", "BadWeb", "NoGood", "BadShare", "BadDeed", "Short", "ByZero", "BadText", "BadRange", "Lacking", "BadRoute", "TooMuch", "UnlikeFees", "BadPrices", "BadSplit", "BadRing", "NothingToUndo", "NothingToRedo", "BadLine"] "PoolError")) }
end K01

set_option Elab.async false
set_option linter.all false
set_option maxRecDepth 100000
set_option maxHeartbeats 1000000
namespace K01
open PySem L2 L3
open K02 (nm gd gd_div)
set_option exponentiation.threshold 10
section
variable {K : PySem.W.Frag} {mg : Str → Option Value} {Z : Ad} {R : Rv → List S → Prop} {Y : Er → List S → Prop}
local macro_rules | `(tactic| walk_at "l4") => `(tactic| first | ((with_reducible apply r_var); rfl) | with_reducible refine r_nil ?_ | with_reducible refine r_c ?_ | with_reducible refine r_cons ?_ | with_reducible refine r_op ?_ | with_reducible refine r_seq ?_ | with_reducible refine r_set ?_ | with_reducible refine r_ifS ?_ | with_reducible refine r_tst ?_ | with_reducible refine r_nx ?_ | with_reducible refine r_call ?_ | with_reducible refine r_expr ?_ | with_reducible refine r_tup ?_ | with_reducible refine r_lst ?_ | with_reducible refine r_if ?_ | with_reducible refine r_andT ?_ | with_reducible refine r_orT ?_ | with_reducible refine r_notT ?_ | with_reducible refine r_tru ?_ | with_reducible refine r_callL ?_ | with_reducible refine r_setL ?_ | with_reducible refine r_ret ?_ | with_reducible refine r_and ?_ | with_reducible refine r_or ?_ | with_reducible refine r_not ?_ | with_reducible refine r_for ?_ | with_reducible refine r_cb ?_ | ((with_reducible apply Exists.intro); (with_reducible apply And.intro); rfl) | ((with_reducible refine And.intro ?_ ?_); first | rfl | exact Nat.le_of_ble_eq_true rfl))
def Odd (d : D) : Prop := (∃ b, d = .bl b) ∨ d = .non ∨ (∃ x, d = .str x) ∨ (∃ xs, d = .lst xs) ∨ (∃ xs, d = .tup xs) ∨ ∃ ks xs, d = .dk ks xs
theorem mulW {j k : Nat} {a b : Int} (h : K02.B j a) (h' : K02.B k b) (q : j + k ≤ 100000) : CMulW a b := K02.B.mulW h h' q
variable {P : D → Prop} {j k : Nat} {r s : Rat} {d : D}
end
end K01

set_option Elab.async false
set_option linter.all false
set_option maxRecDepth 100000
set_option maxHeartbeats 1000000
namespace K01
open PySem L2 L3
open K02 (nm gd gd_div)
set_option exponentiation.threshold 10
section
variable {K : PySem.W.Frag} {mg : Str → Option Value} {Z : Ad} {R : Rv → List S → Prop} {Y : Er → List S → Prop}
local macro_rules | `(tactic| walk_at "l4") => `(tactic| first | ((with_reducible apply r_var); rfl) | with_reducible refine r_nil ?_ | with_reducible refine r_c ?_ | with_reducible refine r_cons ?_ | with_reducible refine r_op ?_ | with_reducible refine r_seq ?_ | with_reducible refine r_set ?_ | with_reducible refine r_ifS ?_ | with_reducible refine r_tst ?_ | with_reducible refine r_nx ?_ | with_reducible refine r_call ?_ | with_reducible refine r_expr ?_ | with_reducible refine r_tup ?_ | with_reducible refine r_lst ?_ | with_reducible refine r_if ?_ | with_reducible refine r_andT ?_ | with_reducible refine r_orT ?_ | with_reducible refine r_notT ?_ | with_reducible refine r_tru ?_ | with_reducible refine r_callL ?_ | with_reducible refine r_setL ?_ | with_reducible refine r_ret ?_ | with_reducible refine r_and ?_ | with_reducible refine r_or ?_ | with_reducible refine r_not ?_ | with_reducible refine r_for ?_ | with_reducible refine r_cb ?_ | ((with_reducible apply Exists.intro); (with_reducible apply And.intro); rfl) | ((with_reducible refine And.intro ?_ ?_); first | rfl | exact Nat.le_of_ble_eq_true rfl))
def Box (c : Int) (xs : List D) : Prop := ∃ b0 b1 b2 : Int, xs = [.int b0, .int b1, .int b2] ∧ 0 ≤ b0 ∧ 0 ≤ b1 ∧ b1 ≤ c ∧ 0 ≤ b2 ∧ b2 ≤ 4000000
theorem b_of {x : Int} (h : x.natAbs < 1000000000000000000000000000000) : K02.B 100 x := Nat.lt_of_lt_of_le h (Nat.le_of_ble_eq_true rfl)
theorem pow3 {x : Int} (h : K02.B 100 x) : CPowB x 3 := by
  have l := PySem.Flt.log2_lt_of (by omega : 0 < 100) h
  have b : PySem.Builtin.Int.intBits x ≤ x.natAbs.log2 + 1 := by
    unfold PySem.Builtin.Int.intBits
    split <;> omega
  refine ⟨by omega, ?_⟩
  have : (PySem.Builtin.Int.intBits x : Int) ≤ 100 := by omega
  omega
theorem div64 {x : Int} : CDivF x 64 := ⟨by omega, PySem.Flt.log2_lt_of (by omega) (by show 64 < 2 ^ 9000; exact Nat.lt_of_lt_of_le (by decide : 64 < 2 ^ 10) (Nat.pow_le_pow_right (by omega) (by omega)))⟩
theorem take_is {c m : Int} {xs : List D} (hb : Box c xs) (hc : c ≤ 1000000) (hm : 0 < m) (hl : m < 1000000000000) 
    (q : ∀ (i : Int) (xs' : List D) (fin : List S), 0 ≤ i → i < m → Box (c + 1) xs' → fin[0]? = some (.ol true xs') → R (.d (.int i)) fin) : q_l_take K Z [.ol true xs, .v (.int m)] R Y := by
  obtain ⟨b0, b1, b2, rfl, h0, h1, h1c, h2, h2c⟩ := hb
  have hl : K02.B 9000 m := (b_of (by omega)).mono (by omega)
  refine r_fn rfl ?_
  unfold w_l_take
  have cm : ∀ x, CDivF x m := fun x => ⟨by omega, PySem.Flt.log2_lt_of (by omega) hl⟩
  (repeat walk_at "l3 step")
  · refine r_ite (fun h => ?_) (fun h => ?_)
    · (repeat walk_at "l3 step")
      · refine q _ _ _ (Int.fmod_nonneg_of_pos _ hm) (Int.fmod_lt_of_pos _ hm) ⟨b0.fdiv m, b1, b2, rfl, ?_, h1, by omega, h2, h2c⟩ rfl
        rw [Int.fdiv_eq_ediv_of_nonneg _ (by omega)]
        exact Int.ediv_nonneg h0 (by omega)
      · exact cm _
      · show m ≠ 0; omega
    · have h' : b0 < 1000000000000000000 := by
        have e : ((10 : Int) ^ Int.toNat 18) = 1000000000000000000 := by decide
        omega
      (repeat walk_at "l3 step")
      · have hx := Int.fmod_nonneg_of_pos (((b0 + 7) * 69069 + (b1 + 1) * 40692 + b2) ^ Int.toNat 3) (b := 2147483647) (by omega)
        have hx' := Int.fmod_lt_of_pos (((b0 + 7) * 69069 + (b1 + 1) * 40692 + b2) ^ Int.toNat 3) (b := 2147483647) (by omega)
        refine q _ _ _ (Int.fmod_nonneg_of_pos _ hm) (Int.fmod_lt_of_pos _ hm) ⟨b0, b1 + 1, b2, rfl, h0, by omega, by omega, h2, h2c⟩ rfl
      all_goals first
        | exact div64
        | (show (2147483647 : Int) ≠ 0; omega)
        | (show (2147483399 : Int) ≠ 0; omega)
        | (show m ≠ 0; omega)
        | exact wide_mul (a := 100) (b := 100) (b_of (by omega)) (b_of (by omega)) (by omega) (by omega) (by omega)
        | exact pow3 (b_of (by omega))
        | (refine pow3 (b_of ?_); have hx := Int.fmod_nonneg_of_pos (((b0 + 7) * 69069 + (b1 + 1) * 40692 + b2) ^ Int.toNat 3) (b := 2147483647) (by omega); have hx' := Int.fmod_lt_of_pos (((b0 + 7) * 69069 + (b1 + 1) * 40692 + b2) ^ Int.toNat 3) (b := 2147483647) (by omega); omega)
  · exact ⟨by omega, by decide⟩
theorem cell_is {ns : List Int} {i : Int} (h : 0 ≤ i) (q : ∀ z fin, R (.d (.int z)) fin) : q_l_cell K Z [.v (.lst (ns.map D.int)), .v (.int i)] R Y := by
  refine r_fn rfl ?_
  unfold w_l_cell
  (repeat walk_at "l3 step")
  refine r_ite (fun hl => ?_) (fun _ => ?_) <;> (repeat walk_at "l3 step")
  · rw [List.length_map] at hl
    obtain ⟨j, rfl⟩ : ∃ j : Nat, i = (j : Int) := ⟨i.toNat, by omega⟩
    have hj : j < ns.length := by omega
    refine r_ix rfl rfl (z := .int ns[j]) ?_ (q _ _)
    unfold atI ixN
    rw [if_pos (by omega), if_pos (by rw [List.length_map]; omega)]
    simp [hj]
  · exact q _ _
theorem box_is {ns : List Int} {i : Int} (h : 0 ≤ i) (h2 : i ≤ 10) (q : ∀ xs fin, Box 0 xs → R (.l xs) fin) : q_l_box K Z [.v (.lst (ns.map D.int)), .v (.int i)] R Y := by
  refine r_fn rfl ?_
  unfold w_l_box
  (repeat walk_at "l3 step")
  refine cell_is h fun z _ => ?_
  (repeat walk_at "l3 step")
  · refine q _ _ ⟨_, _, _, rfl, ?_, by omega, by omega, by omega, by omega⟩
    split <;> omega
  · exact wide_mul (a := 100) (b := 100) (b_of (by omega)) (b_of (by omega)) (by omega) (by omega) (by omega)
end
end K01

set_option Elab.async false
set_option linter.all false
set_option maxRecDepth 100000
set_option maxHeartbeats 1600000
namespace K01
open PySem L2 L3
set_option exponentiation.threshold 10
section
variable {K : PySem.W.Frag} {mg : Str → Option Value} {Z : Ad} {R : Rv → List S → Prop} {Y : Er → List S → Prop}
local macro_rules | `(tactic| walk_at "l4") => `(tactic| first | ((with_reducible apply r_var); rfl) | with_reducible refine r_nil ?_ | with_reducible refine r_c ?_ | with_reducible refine r_cons ?_ | with_reducible refine r_op ?_ | with_reducible refine r_seq ?_ | with_reducible refine r_set ?_ | with_reducible refine r_ifS ?_ | with_reducible refine r_tst ?_ | with_reducible refine r_nx ?_ | with_reducible refine r_call ?_ | with_reducible refine r_expr ?_ | with_reducible refine r_tup ?_ | with_reducible refine r_lst ?_ | with_reducible refine r_if ?_ | with_reducible refine r_andT ?_ | with_reducible refine r_orT ?_ | with_reducible refine r_notT ?_ | with_reducible refine r_tru ?_ | with_reducible refine r_callL ?_ | with_reducible refine r_setL ?_ | with_reducible refine r_ret ?_ | with_reducible refine r_and ?_ | with_reducible refine r_or ?_ | with_reducible refine r_not ?_ | with_reducible refine r_for ?_ | with_reducible refine r_cb ?_ | ((with_reducible apply Exists.intro); (with_reducible apply And.intro); rfl) | ((with_reducible refine And.intro ?_ ?_); first | rfl | exact Nat.le_of_ble_eq_true rfl))
abbrev ers (Z : Ad) : List Addr := [Z.C_BadNumber, Z.C_BadSize, Z.C_BadRoot, Z.C_BadFee, Z.C_BadGood, Z.C_BadAmount, Z.C_NoWay, Z.C_BadName, Z.C_InUse, Z.C_NoPosition, Z.C_NoPool, Z.C_BadWeb, Z.C_NoGood, Z.C_BadShare, Z.C_BadDeed, Z.C_Short, Z.C_ByZero, Z.C_BadText, Z.C_BadRange, Z.C_Lacking, Z.C_BadRoute, Z.C_TooMuch, Z.C_UnlikeFees, Z.C_BadPrices, Z.C_BadSplit, Z.C_BadRing, Z.C_NothingToUndo, Z.C_NothingToRedo, Z.C_BadLine]
theorem r_isiE {c u : Addr} {k : Bool} {P : D → Prop} (hx : L2.ExcC K c) (hk : PySem.W.kitOne K (.ref c) (.ref u) = some k) (q : P (.bl k)) : zIsiE K [.er c, .adr u] P := ⟨c, _, _, k, rfl, rfl, hx, hk, q⟩
theorem r_isiV {c : Addr} {k : Bool} {P : D → Prop} (hx : L2.ExcC K c) (hk : PySem.W.kitOne K (.ref c) (.type "ValueError") = some k) (q : P (.bl k)) : zIsiE K [.er c, .ty "ValueError"] P := ⟨c, _, _, k, rfl, rfl, hx, hk, q⟩
local macro_rules | `(tactic| walk_at "l4") => `(tactic| first | ((with_reducible apply r_var); rfl) | with_reducible refine r_nil ?_ | with_reducible refine r_c ?_ | with_reducible refine r_cons ?_ | with_reducible refine r_op ?_ | with_reducible refine r_seq ?_ | with_reducible refine r_set ?_ | with_reducible refine r_ifS ?_ | with_reducible refine r_tst ?_ | with_reducible refine r_nx ?_ | with_reducible refine r_call ?_ | with_reducible refine r_expr ?_ | with_reducible refine r_tup ?_ | with_reducible refine r_lst ?_ | with_reducible refine r_if ?_ | with_reducible refine r_andT ?_ | with_reducible refine r_orT ?_ | with_reducible refine r_notT ?_ | with_reducible refine r_tru ?_ | with_reducible refine r_callL ?_ | with_reducible refine r_setL ?_ | with_reducible refine r_ret ?_ | with_reducible refine r_and ?_ | with_reducible refine r_or ?_ | with_reducible refine r_not ?_ | with_reducible refine r_for ?_ | with_reducible refine r_cb ?_ | ((with_reducible apply Exists.intro); (with_reducible apply And.intro); rfl) | ((with_reducible refine And.intro ?_ ?_); first | rfl | exact Nat.le_of_ble_eq_true rfl) | (first | with_reducible refine r_err ?_ | with_reducible refine r_err0 ?_ | with_reducible refine r_errK ?_ | with_reducible refine r_dk1 ?_))
theorem cnt : ∀ i, i < 29 → (((List.range 29).map fun j => decide (i = j)).filter id).length = 1 := by decide
theorem kinds_is (T : Txt K mg Z) {i : Nat} (hi : i < (ers Z).length) (q : ∀ fin, R (.d (.int 1)) fin) : q_l_kinds K Z [.v (.er ((ers Z)[i]))] R Y := by
  have hx := T.ERS.ex _ (List.getElem_mem hi)
  have h29 : i < 29 := hi
  refine r_fn rfl ?_
  unfold w_l_kinds
  (repeat walk_at "l4")
  refine r_isiE hx (T.ERS.no i 0 hi (by simp)) ?_
  (repeat walk_at "l4")
  refine r_isiE hx (T.ERS.no i 1 hi (by simp)) ?_
  (repeat walk_at "l4")
  refine r_isiE hx (T.ERS.no i 2 hi (by simp)) ?_
  (repeat walk_at "l4")
  refine r_isiE hx (T.ERS.no i 3 hi (by simp)) ?_
  (repeat walk_at "l4")
  refine r_isiE hx (T.ERS.no i 4 hi (by simp)) ?_
  (repeat walk_at "l4")
  refine r_isiE hx (T.ERS.no i 5 hi (by simp)) ?_
  (repeat walk_at "l4")
  refine r_cat (by simp) ?_
  (repeat walk_at "l4")
  refine r_isiE hx (T.ERS.no i 6 hi (by simp)) ?_
  (repeat walk_at "l4")
  refine r_isiE hx (T.ERS.no i 7 hi (by simp)) ?_
  (repeat walk_at "l4")
  refine r_isiE hx (T.ERS.no i 8 hi (by simp)) ?_
  (repeat walk_at "l4")
  refine r_cat (by simp) ?_
  (repeat walk_at "l4")
  refine r_isiE hx (T.ERS.no i 9 hi (by simp)) ?_
  (repeat walk_at "l4")
  refine r_isiE hx (T.ERS.no i 10 hi (by simp)) ?_
  (repeat walk_at "l4")
  refine r_isiE hx (T.ERS.no i 11 hi (by simp)) ?_
  (repeat walk_at "l4")
  refine r_cat (by simp) ?_
  (repeat walk_at "l4")
  refine r_isiE hx (T.ERS.no i 12 hi (by simp)) ?_
  (repeat walk_at "l4")
  refine r_isiE hx (T.ERS.no i 13 hi (by simp)) ?_
  (repeat walk_at "l4")
  refine r_isiE hx (T.ERS.no i 14 hi (by simp)) ?_
  (repeat walk_at "l4")
  refine r_cat (by simp) ?_
  (repeat walk_at "l4")
  refine r_isiE hx (T.ERS.no i 15 hi (by simp)) ?_
  (repeat walk_at "l4")
  refine r_isiE hx (T.ERS.no i 16 hi (by simp)) ?_
  (repeat walk_at "l4")
  refine r_isiE hx (T.ERS.no i 17 hi (by simp)) ?_
  (repeat walk_at "l4")
  refine r_cat (by simp) ?_
  (repeat walk_at "l4")
  refine r_isiE hx (T.ERS.no i 18 hi (by simp)) ?_
  (repeat walk_at "l4")
  refine r_isiE hx (T.ERS.no i 19 hi (by simp)) ?_
  (repeat walk_at "l4")
  refine r_isiE hx (T.ERS.no i 20 hi (by simp)) ?_
  (repeat walk_at "l4")
  refine r_cat (by simp) ?_
  (repeat walk_at "l4")
  refine r_isiE hx (T.ERS.no i 21 hi (by simp)) ?_
  (repeat walk_at "l4")
  refine r_isiE hx (T.ERS.no i 22 hi (by simp)) ?_
  (repeat walk_at "l4")
  refine r_isiE hx (T.ERS.no i 23 hi (by simp)) ?_
  (repeat walk_at "l4")
  refine r_cat (by simp) ?_
  (repeat walk_at "l4")
  refine r_isiE hx (T.ERS.no i 24 hi (by simp)) ?_
  (repeat walk_at "l4")
  refine r_isiE hx (T.ERS.no i 25 hi (by simp)) ?_
  (repeat walk_at "l4")
  refine r_isiE hx (T.ERS.no i 26 hi (by simp)) ?_
  (repeat walk_at "l4")
  refine r_cat (by simp) ?_
  (repeat walk_at "l4")
  refine r_isiE hx (T.ERS.no i 27 hi (by simp)) ?_
  (repeat walk_at "l4")
  refine r_isiE hx (T.ERS.no i 28 hi (by simp)) ?_
  (repeat walk_at "l4")
  refine r_cat (by simp) ?_
  (repeat walk_at "l4")
  refine lcp (f := D.bl) (out := D.bl) (sel := id) ((List.range 29).map fun j => decide (i = j)) (by (simp only [L3.wipeS, List.set_cons_zero, List.set_cons_succ] <;> rfl)) (fun b hb A Bq h1 h2 => ?_) (by simp) (fun δe hδ => ?_)
  · (repeat walk_at "l4")
    cases b with
    | true =>
      (repeat walk_at "l4")
      exact h1 rfl _ rfl rfl
    | false =>
      (repeat walk_at "l4")
      exact h2 rfl _ rfl rfl
  (simp only [L3.backS, List.set_cons_zero, List.set_cons_succ, List.getD_cons_zero, List.getD_cons_succ] at hδ; subst hδ)
  (repeat walk_at "l4")
  rw [List.length_map, cnt i h29]
  exact q _
theorem u_ee {P : D → Prop} (q : P (.bl true)) : oEqD (.lst []) (.lst []) P := ⟨.list [], .list [], rfl, rfl, rfl, rfl, by
  rw [show PyData.eqv (.list []) (.list []) = true by kernel_rfl]; exact q⟩
theorem bases_is (T : Txt K mg Z) (q : ∀ fin, R (.d (.bl true)) fin) : q_l_bases K Z [] R Y := by
  refine r_fn rfl ?_
  unfold w_l_bases
  (repeat walk_at "l4")
  refine r_cat (by simp) ?_
  (repeat walk_at "l4")
  refine r_cat (by simp) ?_
  (repeat walk_at "l4")
  refine r_cat (by simp) ?_
  (repeat walk_at "l4")
  refine r_cat (by simp) ?_
  (repeat walk_at "l4")
  refine lcp (f := D.er) (out := D.er) (sel := fun _ => false) (ers Z) (by (simp only [L3.wipeS, List.set_cons_zero, List.set_cons_succ] <;> rfl)) (fun c hc A Bq h1 h2 => ?_) (by simp) (fun δe hδ => ?_)
  · have hx := T.ERS.ex c hc
    (repeat walk_at "l4")
    refine r_isiE hx (T.ERS.up c hc) ?_
    (repeat walk_at "l4")
    refine r_isiV hx (T.ERS.ve c hc) ?_
    (repeat walk_at "l4")
    exact h2 rfl _ rfl rfl
  (simp only [L3.backS, List.set_cons_zero, List.set_cons_succ, List.getD_cons_zero, List.getD_cons_succ] at hδ; subst hδ)
  (repeat walk_at "l4")
  show oEqD (.lst []) (.lst []) _
  refine u_ee ?_
  (repeat walk_at "l4")
  refine lcp (f := D.er) (out := D.er) (sel := fun _ => false) (ers Z) (by (simp only [L3.wipeS, List.set_cons_zero, List.set_cons_succ] <;> rfl)) (fun c hc A Bq h1 h2 => ?_) (by simp) (fun δe hδ => ?_)
  · obtain ⟨i, hi, rfl⟩ := List.getElem_of_mem hc
    (repeat walk_at "l4")
    refine kinds_is T hi fun _ => ?_
    (repeat walk_at "l4")
    refine ⟨.int 1, .int 1, rfl, rfl, rfl, rfl, ?_⟩
    rw [show (!PyData.eqv (.int 1) (.int 1)) = false by kernel_rfl]
    (repeat walk_at "l4")
    exact h2 rfl _ rfl rfl
  (simp only [L3.backS, List.set_cons_zero, List.set_cons_succ, List.getD_cons_zero, List.getD_cons_succ] at hδ; subst hδ)
  (repeat walk_at "l4")
  show oEqD (.lst []) (.lst []) _
  refine u_ee ?_
  (repeat walk_at "l4")
  exact q _
theorem atI_in {L : List D} {i : Int} (h0 : 0 ≤ i) (h1 : i < L.length) : ∃ z, atI L i = some z ∧ z ∈ L := by
  obtain ⟨n, rfl⟩ : ∃ k : Nat, i = (k : Int) := ⟨i.toNat, by omega⟩
  have hn : n < L.length := by omega
  refine ⟨L[n], ?_, List.getElem_mem hn⟩
  unfold atI ixN
  rw [if_pos (by omega), if_pos (by omega)]
  simp [hn]
theorem at16 {a b : D} {x : Nat} (hx : x < 16) : atI [a, b, a, b, a, b, a, b, a, b, a, b, a, b, a, b] (x : Int) = some (if (x : Int).fmod 2 = 0 then a else b) := by
  have : x = 0 ∨ x = 1 ∨ x = 2 ∨ x = 3 ∨ x = 4 ∨ x = 5 ∨ x = 6 ∨ x = 7 ∨ x = 8 ∨ x = 9 ∨ x = 10 ∨ x = 11 ∨ x = 12 ∨ x = 13 ∨ x = 14 ∨ x = 15 := by omega
  rcases this with rfl | rfl | rfl | rfl | rfl | rfl | rfl | rfl | rfl | rfl | rfl | rfl | rfl | rfl | rfl | rfl <;> rfl
def Gd (K : PySem.W.Frag) (d : D) : Prop := ∃ x t k, reprD d = some x ∧ PyData.eqv (.str x) (.str x) = true ∧ SeqAt.shaped (.str x) = true ∧ tyD d = some t ∧ tyOk K d ∧ PySem.W.kitOne K t (.type "bool") = some k
theorem same_is {d : D} (h : Gd K d) (q : ∀ fin, R (.d (.bl true)) fin) : q_l_same K Z [.v d, .v d] R Y := by
  obtain ⟨x, t, k, h1, h2, h3, h4, h5, h6⟩ := h
  refine r_fn rfl ?_
  unfold w_l_same
  (repeat walk_at "l4")
  refine r_repr h1 ?_
  (repeat walk_at "l4")
  refine r_repr h1 ?_
  (repeat walk_at "l4")
  refine ⟨.str x, .str x, rfl, rfl, h3, h3, ?_⟩
  rw [h2]
  (repeat walk_at "l4")
  refine r_isi rfl h4 h5 h6 ?_
  (repeat walk_at "l4")
  refine r_isi rfl h4 h5 h6 ?_
  (repeat walk_at "l4")
  refine ⟨.bool k, .bool k, rfl, rfl, rfl, rfl, ?_⟩
  rw [show PyData.eqv (.bool k) (.bool k) = true by cases k <;> kernel_rfl]
  exact q _
theorem gdA (T : Txt K mg Z) {d : D} (h : d ∈ [D.str "p", .int 0, .non, .int (-3), .tup [.int 1, .int 2], .lst [.str "x"], .bl true]) : Gd K d := by
  simp only [List.mem_cons, List.not_mem_nil, or_false] at h
  rcases h with rfl | rfl | rfl | rfl | rfl | rfl | rfl
  · exact ⟨"'p'", _, _, by kernel_rfl, by kernel_rfl, by kernel_rfl, rfl, trivial, T.kit_str_bool⟩
  · exact ⟨"0", _, _, by kernel_rfl, by kernel_rfl, by kernel_rfl, rfl, trivial, T.kit_int_bool⟩
  · exact ⟨"None", _, _, by kernel_rfl, by kernel_rfl, by kernel_rfl, rfl, trivial, T.kit_NoneType_bool⟩
  · exact ⟨"-3", _, _, by kernel_rfl, by kernel_rfl, by kernel_rfl, rfl, trivial, T.kit_int_bool⟩
  · exact ⟨"(1, 2)", _, _, by kernel_rfl, by kernel_rfl, by kernel_rfl, rfl, trivial, T.kit_tuple_bool⟩
  · exact ⟨"['x']", _, _, by kernel_rfl, by kernel_rfl, by kernel_rfl, rfl, trivial, T.kit_list_bool⟩
  · exact ⟨"True", _, _, by kernel_rfl, by kernel_rfl, by kernel_rfl, rfl, trivial, T.kit_bool_bool⟩
theorem gdB (T : Txt K mg Z) {d : D} (h : d ∈ [D.dk [.inr "k"] [.int 1], .int (10 ^ 30), .str "", .tup [.str "q"], .bl false]) : Gd K d := by
  simp only [List.mem_cons, List.not_mem_nil, or_false] at h
  rcases h with rfl | rfl | rfl | rfl | rfl
  · exact ⟨"{'k': 1}", _, _, by kernel_rfl, by kernel_rfl, by kernel_rfl, rfl, trivial, T.kit_dict_bool⟩
  · exact ⟨"1000000000000000000000000000000", _, _, by kernel_rfl, by kernel_rfl, by kernel_rfl, rfl, trivial, T.kit_int_bool⟩
  · exact ⟨"''", _, _, by kernel_rfl, by kernel_rfl, by kernel_rfl, rfl, trivial, T.kit_str_bool⟩
  · exact ⟨"('q',)", _, _, by kernel_rfl, by kernel_rfl, by kernel_rfl, rfl, trivial, T.kit_tuple_bool⟩
  · exact ⟨"False", _, _, by kernel_rfl, by kernel_rfl, by kernel_rfl, rfl, trivial, T.kit_bool_bool⟩
theorem law_true (T : Txt K mg Z) (ns : List Int) (hl : ns.length ≤ 63) : q_l_law K Z [.v (.lst (ns.map D.int))] (fun r _ => rvD r = .bl true) (fun _ _ => False) := by
  refine r_fn rfl ?_
  unfold w_l_law
  (repeat walk_at "l4")
  refine box_is (by omega) (by omega) fun xs0 _ hb0 => ⟨_, rfl, ?_⟩
  (repeat walk_at "l4")
  refine take_is hb0 (by omega) (by omega) (by omega) fun i xs1 fin i0 i1 hb1 hf => ⟨_, hf, rfl, rfl, ?_⟩
  obtain ⟨a, ha, ham⟩ := atI_in (L := [D.str "p", .int 0, .non, .int (-3), .tup [.int 1, .int 2], .lst [.str "x"], .bl true]) i0 i1
  have ga := gdA T ham
  refine r_ix rfl rfl ha ?_
  clear ha ham
  (repeat walk_at "l4")
  · refine take_is hb1 (by omega) (by omega) (by omega) fun j xs2 fin2 j0 j1 hb2 hf2 => ⟨_, hf2, rfl, rfl, ?_⟩
    obtain ⟨b, hb, hbm⟩ := atI_in (L := [D.dk [.inr "k"] [.int 1], .int (10 ^ 30), .str "", .tup [.str "q"], .bl false]) j0 j1
    have gb := gdB T hbm
    refine r_ix rfl rfl hb ?_
    clear hb hbm
    (repeat walk_at "l4")
    refine r_cat (by simp) ?_
    (repeat walk_at "l4")
    refine r_cat (by simp) ?_
    (repeat walk_at "l4")
    refine r_cat (by simp) ?_
    (repeat walk_at "l4")
    refine r_cat (by simp) ?_
    (repeat walk_at "l4")
    refine r_cat (by simp) ?_
    (repeat walk_at "l4")
    refine r_cat (by simp) ?_
    (repeat walk_at "l4")
    rw [rangeD_map]
    refine loop_inv (fun pre δ => ∃ s6 s7, δ = [.v (.lst (ns.map D.int)), .ol false xs2, .v a, .v b, .v (.lst [a, b, a, b, a, b, a, b, a, b, a, b, a, b, a, b]), .v (.lst [a, b, a, b, a, b, a, b, a, b, a, b, a, b, a, b]), s6, s7]) (List.range (Int.toNat 16)) (fun pre x post δ N e hN hI => ?_) (fun δ hI => ?_) _ ⟨_, _, rfl⟩
    · obtain ⟨s6, s7, rfl⟩ := hI
      have hx : x < 16 := by
        have : x ∈ List.range (Int.toNat 16) := by rw [e]; simp
        exact List.mem_range.mp this
      have at_ := at16 (a := a) (b := b) hx
      (repeat walk_at "l4")
      · rw [show (0 : Int) + (x : Int) = (x : Int) by omega]
        refine r_ite (fun ev => ?_) (fun ev => ?_)
        · rw [if_pos ev] at at_
          (repeat walk_at "l4")
          refine r_ix rfl rfl at_ ?_
          (repeat walk_at "l4")
          refine same_is ga fun _ => ?_
          (repeat walk_at "l4")
          refine r_ix rfl rfl at_ ?_
          (repeat walk_at "l4")
          refine same_is ga fun _ => ?_
          (repeat walk_at "l4")
          exact hN _ ⟨_, _, rfl⟩
        · rw [if_neg ev] at at_
          (repeat walk_at "l4")
          refine r_ix rfl rfl at_ ?_
          (repeat walk_at "l4")
          refine same_is gb fun _ => ?_
          (repeat walk_at "l4")
          refine r_ix rfl rfl at_ ?_
          (repeat walk_at "l4")
          refine same_is gb fun _ => ?_
          (repeat walk_at "l4")
          exact hN _ ⟨_, _, rfl⟩
      · show (2 : Int) ≠ 0
        omega
    · obtain ⟨s6, s7, rfl⟩ := hI
      (repeat walk_at "l4")
      refine same_is ga fun _ => ?_
      (repeat walk_at "l4")
      refine same_is gb fun _ => ?_
      (repeat walk_at "l4")
      refine bases_is T fun _ => ?_
      rfl
  · exact ⟨by omega, by decide⟩
end
end K01

set_option Elab.async false
set_option linter.all false
set_option maxRecDepth 100000
open PySem PySem.W PySem.Calls PyProof.Rows
set_option maxHeartbeats 0 in
theorem PySem.Challenge.cw_rangepools_k01_errors_holds : PySem.Challenge.rw_rangepools_k01_errors.Holds := by
  w_on; o_law
  refine LH.head_pieces (r := K01.R) (q := view K01.R.prog [38]) (y := K01.H.y) (H := K01.hk) (ob := K01.ob) (loose := K01.lo) (d := HandSHeadRun.topDef K01.R.prog 38) (kwd := []) K01.ob_eq
    K01.H.hopen K01.H.hsize K01.H.hpre K01.H.hblock K01.H.hrest (by kernel_rfl) K01.H.looks (by kernel_rfl) (by kernel_rfl) (by kernel_rfl) (by rfl) (by first | assumption | decide +kernel) (by decide +kernel) ⟨rfl, rfl, rfl, rfl, rfl, by decide +kernel⟩ ?hw ?hc
  case hw => w_witness2
  case hc =>
    refine L3.walk_G (l := PySem.Challenge.rw_rangepools_k01_errors) (n := 63) (k := 4) (par := "_law_script") rfl (by decide) (by kernel_rfl) ⟨⟨rfl, by decide, by decide⟩, rfl⟩ ?F
    intro w mg fa h Y G hmg0
    obtain ⟨K, KX, c⟩ := Y
    have hmg : mg ("law" : PySem.Str) = some (.ref fa) := by
      have e : (HandSHeadRun.topDef K01.R.prog 38).name = ("law" : PySem.Str) := by kernel_rfl
      rw [← e]
      exact hmg0
    obtain ⟨Z, T, hz⟩ := K01.facts KX G c
    have hf : fa = Z.f_l_law := by
      have z := hmg.symm.trans T.G_l_law
      cases z
      rfl
    subst hf
    exact ⟨K, Z.d_l_law, K01.q_l_law K Z, KX, fun s u => L3.bindsA1 T.F_l_law (fun _ _ _ _ _ _ us hl => match us, hl with | [_], _ => rfl) s u, fun ns hl => K01.law_true T ns hl, fun base _ _ => K01.ok_l_law T⟩
#print axioms PySem.Challenge.cw_rangepools_k01_errors_holds
